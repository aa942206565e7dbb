
/- Arrays (layer 6), pure: cells and lanes as the layer answers them. -/
import Derived.Test.YtedfjmidcljmoaaArrQ
namespace Go.Proofs.Ytedfjmidcljmoaa
set_option linter.unusedVariables false
/-- How many numbers a cell has. -/
def clA (s d : List Int) : Nat := d.length / (ith s 0).toNat
/-- What Cell answers. -/
def ceR (s d : List Int) (k : Int) : (List Int × List Int) × Int :=
  if rightB s d = true then
    if 0 < s.length ∧ 0 ≤ k ∧ k < ith s 0 then ((s.drop 1, (d.drop (k.toNat * clA s d)).take (clA s d)), 0) else (([], []), 62)
  else (([], []), 60)
theorem ce_yes {s d : List Int} {k : Int} (h : rightB s d = true) (g : 0 < s.length ∧ 0 ≤ k ∧ k < ith s 0) : ceR s d k = ((s.drop 1, (d.drop (k.toNat * clA s d)).take (clA s d)), 0) := by unfold ceR; rw [if_pos h, if_pos g]
theorem ce_none {s d : List Int} {k : Int} (h : rightB s d = true) (g : ¬ (0 < s.length ∧ 0 ≤ k ∧ k < ith s 0)) : ceR s d k = (([], []), 62) := by unfold ceR; rw [if_pos h, if_neg g]
theorem ce_no {s d : List Int} {k : Int} (h : rightB s d = false) : ceR s d k = (([], []), 60) := by unfold ceR; rw [if_neg (by rw [h]; simp)]
theorem prod_head {s : List Int} (h : 0 < s.length) : prodA s = ith s 0 * prodA (s.drop 1) := by
  match s, h with
  | a :: t, _ => rfl
theorem cl_eq {s d : List Int} (h : rightB s d = true) (hl : 0 < s.length) (h0 : 0 < ith s 0) : (clA s d : Int) = prodA (s.drop 1) ∧ (ith s 0).toNat * clA s d = d.length := by
  obtain ⟨ho, he⟩ := right_yes h
  rw [prod_head hl] at he
  have hn : 0 ≤ prodA (s.drop 1) := prodA_nn fun x hx => ok_nn ho x (List.mem_of_mem_drop hx)
  obtain ⟨q, hq⟩ := Int.eq_ofNat_of_zero_le hn
  obtain ⟨a, ha⟩ := Int.eq_ofNat_of_zero_le (Int.le_of_lt h0)
  rw [hq, ha] at he
  have he' : a * q = d.length := by exact_mod_cast he
  have ha0 : 0 < a := by omega
  have hc : clA s d = q := by
    unfold clA
    rw [ha, Int.toNat_natCast, ← he', Nat.mul_div_cancel_left _ ha0]
  rw [hc, hq, ha, Int.toNat_natCast]
  exact ⟨rfl, he'⟩
theorem cl_div {s d : List Int} (h : rightB s d = true) (hl : 0 < s.length) (h0 : 0 < ith s 0) : (d.length : Int) / ith s 0 = clA s d := by
  have := (cl_eq h hl h0).2
  rw [← this, Int.natCast_mul, Int.toNat_of_nonneg (Int.le_of_lt h0)]
  exact Int.mul_ediv_cancel_left _ (by omega)
theorem cl_fit {s d : List Int} {k : Nat} (h : rightB s d = true) (hl : 0 < s.length) (hk : (k : Int) < ith s 0) : (k + 1) * clA s d ≤ d.length := by
  have h2 := (cl_eq h hl (by omega)).2
  rw [← h2]
  exact Nat.mul_le_mul_right _ (by omega)
theorem right_len {s d : List Int} (h : rightB s d = true) : d.length ≤ 65536 ∧ s.length ≤ 4 := by
  obtain ⟨ho, he⟩ := right_yes h
  have := ho.2.2
  have := ho.1
  omega
theorem cut_len {s d : List Int} {k : Nat} (h : rightB s d = true) (hl : 0 < s.length) (hk : (k : Int) < ith s 0) : ((d.drop (k * clA s d)).take (clA s d)).length = clA s d := by
  have h1 := cl_fit h hl hk
  rw [Nat.add_mul, Nat.one_mul] at h1
  rw [List.length_take, List.length_drop]
  omega
/-- A cell is an array. -/
theorem cell_right {s d : List Int} {k : Nat} (h : rightB s d = true) (hl : 0 < s.length) (hk : (k : Int) < ith s 0) : rightB (s.drop 1) ((d.drop (k * clA s d)).take (clA s d)) = true := by
  obtain ⟨ho, he⟩ := right_yes h
  have h0 : 0 < ith s 0 := by omega
  have hc := (cl_eq h hl h0).1
  refine right_mk ⟨by have := ho.1; rw [List.length_drop]; omega, fun x hx => ho.2.1 x (List.mem_of_mem_drop hx), ?_⟩ ?_
  · have h1 := ho.2.2
    rw [prod_head hl] at h1
    have h2 : 0 ≤ prodA (s.drop 1) := prodA_nn fun x hx => ok_nn ho x (List.mem_of_mem_drop hx)
    have h3 : 1 * prodA (s.drop 1) ≤ ith s 0 * prodA (s.drop 1) := Int.mul_le_mul_of_nonneg_right (by omega) h2
    omega
  · rw [cut_len h hl hk, ← hc]
/-- How long a lane is. -/
def lnA (s : List Int) : Int := if 0 < s.length then ith s (s.length - 1) else 1
/-- How many lanes there are. -/
def nlA (s d : List Int) : Nat := d.length / (lnA s).toNat
/-- What Lanes answers. -/
def laR (s d : List Int) : List (List Int) × Int := if rightB s d = true then (partsA (lnA s).toNat (nlA s d) d, 0) else ([], 60)
theorem la_yes {s d : List Int} (h : rightB s d = true) : laR s d = (partsA (lnA s).toNat (nlA s d) d, 0) := if_pos h
theorem la_no {s d : List Int} (h : rightB s d = false) : laR s d = ([], 60) := by unfold laR; rw [if_neg (by rw [h]; simp)]
theorem ln_rng {s : List Int} (h : okA s) : 0 ≤ lnA s ∧ lnA s ≤ 65536 := by
  unfold lnA
  split
  · exact ok_ith h _
  · omega
theorem prod_last {s : List Int} (h : 0 < s.length) : prodA s = prodA (s.take (s.length - 1)) * ith s (s.length - 1) := by
  have := prod_snoc s (k := s.length - 1) (by omega)
  rw [show s.length - 1 + 1 = s.length by omega, List.take_length] at this
  exact this
/-- There are numbers: a lane is not empty, and lanes fill the list. -/
theorem ln_fill {s d : List Int} (h : rightB s d = true) (hd : 0 < d.length) : 0 < lnA s ∧ d.length = nlA s d * (lnA s).toNat := by
  obtain ⟨ho, he⟩ := right_yes h
  have key : 0 < lnA s ∧ ∃ q : Nat, d.length = q * (lnA s).toNat := by
    unfold lnA
    by_cases hl : 0 < s.length
    · rw [if_pos hl]
      rw [prod_last hl] at he
      have hn : 0 ≤ prodA (s.take (s.length - 1)) := prodA_nn fun x hx => ok_nn ho x (List.mem_of_mem_take hx)
      have h1 := prod_parts hn (ok_ith ho (s.length - 1)).1 (by omega)
      refine ⟨h1.2, (prodA (s.take (s.length - 1))).toNat, ?_⟩
      have : ((d.length : Nat) : Int) = (((prodA (s.take (s.length - 1))).toNat * (ith s (s.length - 1)).toNat : Nat) : Int) := by
        rw [Int.natCast_mul, Int.toNat_of_nonneg hn, Int.toNat_of_nonneg (Int.le_of_lt h1.2), he]
      exact_mod_cast this
    · rw [if_neg hl]
      exact ⟨by omega, d.length, by simp⟩
  obtain ⟨h1, q, h2⟩ := key
  refine ⟨h1, ?_⟩
  unfold nlA
  have h3 : 0 < (lnA s).toNat := by omega
  have h4 : d.length / (lnA s).toNat = q := by rw [h2]; exact Nat.mul_div_cancel _ h3
  rw [h4]; exact h2
theorem nl_zero {s d : List Int} (hd : d.length = 0) : nlA s d = 0 := by unfold nlA; rw [hd]; exact Nat.zero_div _
theorem fill_all {s d : List Int} (h : rightB s d = true) : d.length = nlA s d * (lnA s).toNat := by
  rcases Nat.eq_zero_or_pos d.length with h0 | h0
  · rw [nl_zero h0, h0, Nat.zero_mul]
  · exact (ln_fill h h0).2
end Go.Proofs.Ytedfjmidcljmoaa
