
/- Arrays (layer 6), pure: sizes by the document and by the code. -/
import Derived.Test.YtedfjmidcljmoaaArrM
import Derived.Test.YtedfjmidcljmoaaArrN
import Derived.Test.YtedfjmidcljmoaaArrL
namespace Go.Proofs.Ytedfjmidcljmoaa
set_option linter.unusedVariables false
theorem ith_cons0 (a : Int) (s : List Int) : ith (a :: s) 0 = a := rfl
theorem ith_succ (a : Int) (s : List Int) (k : Nat) : ith (a :: s) (k + 1) = ith s k := by unfold ith; simp
theorem ith_mem {s : List Int} {k : Nat} (h : k < s.length) : ith s k ∈ s := by
  unfold ith
  rw [List.getD_eq_getElem?_getD, List.getElem?_eq_getElem h]; exact List.getElem_mem h
theorem ith_get {s : List Int} {k : Nat} (h : k < s.length) : s[k]? = some (ith s k) := by
  unfold ith
  rw [List.getD_eq_getElem?_getD, List.getElem?_eq_getElem h]; rfl
theorem ith_take_snoc {s : List Int} {k : Nat} (h : k < s.length) : s.take (k + 1) = s.take k ++ [ith s k] := by
  rw [List.take_add_one, ith_get h]; rfl
theorem ith_out {s : List Int} {k : Nat} (h : s.length ≤ k) : ith s k = 0 := by
  unfold ith
  rw [List.getD_eq_getElem?_getD, List.getElem?_eq_none h]; rfl
theorem ith_ext {a b : List Int} (hl : a.length = b.length) (h : ∀ k, k < a.length → ith a k = ith b k) : a = b := by
  apply List.ext_getElem? 
  intro k
  rcases Nat.lt_or_ge k a.length with hk | hk
  · rw [ith_get hk, ith_get (by omega), h k hk]
  · rw [List.getElem?_eq_none hk, List.getElem?_eq_none (by omega)]
theorem all_ith {s : List Int} {P : Int → Prop} (h : ∀ k, k < s.length → P (ith s k)) : ∀ x ∈ s, P x := by
  intro x hx
  obtain ⟨k, hk, rfl⟩ := List.getElem_of_mem hx
  have := h k hk
  unfold ith at this
  rwa [List.getD_eq_getElem?_getD, List.getElem?_eq_getElem hk] at this
theorem prod_snoc (s : List Int) {k : Nat} (h : k < s.length) : prodA (s.take (k + 1)) = prodA (s.take k) * ith s k := by
  rw [ith_take_snoc h, prodA_app]
  show _ * (ith s k * 1) = _
  rw [Int.mul_one]
/-- What Size answers. -/
def szR (s : List Int) : Int × Int := if okA s then (prodA s, 0) else (0, 61)
theorem sz_yes {s : List Int} (h : okA s) : szR s = (prodA s, 0) := if_pos h
theorem sz_no {s : List Int} (h : ¬ okA s) : szR s = (0, 61) := if_neg h
theorem ok_nn {s : List Int} (h : okA s) : ∀ x ∈ s, 0 ≤ x := fun x hx => (h.2.1 x hx).1
theorem ok_rng {s : List Int} (h : okA s) : 0 ≤ prodA s ∧ prodA s ≤ 65536 := ⟨prodA_nn (ok_nn h), h.2.2⟩
theorem ok_ith {s : List Int} (h : okA s) (k : Nat) : 0 ≤ ith s k ∧ ith s k ≤ 65536 := by
  rcases Nat.lt_or_ge k s.length with hk | hk
  · exact h.2.1 _ (ith_mem hk)
  · rw [ith_out hk]; omega
theorem not_ok_len {s : List Int} (h : 4 < s.length) : ¬ okA s := fun g => by have := g.1; omega
theorem not_ok_side {s : List Int} {k : Nat} (hk : k < s.length) (h : ith s k < 0 ∨ 65536 < ith s k) : ¬ okA s := fun g => by
  have := g.2.1 _ (ith_mem hk); omega
/-- The code's size: held just above the limit. -/
def capA (s : List Int) : Int := if prodA s ≤ 65537 then prodA s else 65537
theorem cap_le (s : List Int) : capA s ≤ 65537 := by unfold capA; split <;> omega
theorem cap_nn {s : List Int} (h : ∀ x ∈ s, 0 ≤ x) : 0 ≤ capA s := by
  have := prodA_nn h
  unfold capA; split <;> omega
theorem cap_mul {p a : Int} (hp : 0 ≤ p) (ha : 0 ≤ a) : (if 65537 < (if p ≤ 65537 then p else 65537) * a then 65537 else (if p ≤ 65537 then p else 65537) * a) = if p * a ≤ 65537 then p * a else 65537 := by
  by_cases h : p ≤ 65537
  · rw [if_pos h]
    by_cases h2 : p * a ≤ 65537
    · rw [if_pos h2, if_neg (by omega)]
    · rw [if_neg h2, if_pos (by omega)]
  · rw [if_neg h]
    rcases Int.lt_or_eq_of_le ha with h0 | h0
    · have h1 : 65537 * 1 ≤ 65537 * a := Int.mul_le_mul_of_nonneg_left (by omega) (by omega)
      have h2 : 65538 * a ≤ p * a := Int.mul_le_mul_of_nonneg_right (by omega) (by omega)
      rw [if_neg (show ¬ p * a ≤ 65537 by omega)]
      split <;> omega
    · rw [← h0]; simp
theorem cap_snoc {s : List Int} {k : Nat} (hk : k < s.length) (h : ∀ j, j < k → 0 ≤ ith s j) (h1 : 0 ≤ ith s k) : (if 65537 < capA (s.take k) * ith s k then 65537 else capA (s.take k) * ith s k) = capA (s.take (k + 1)) := by
  unfold capA
  rw [prod_snoc s hk]
  refine cap_mul (prodA_nn ?_) h1
  refine all_ith fun j hj => ?_
  rw [List.length_take] at hj
  have := h j (by omega)
  unfold ith at this ⊢
  rw [List.getD_eq_getElem?_getD] at this ⊢
  rwa [List.getElem?_take, if_pos (by omega)]
theorem cap_bound {s : List Int} {k : Nat} {x : Int} (h0 : 0 ≤ capA (s.take k)) (h : 0 ≤ x ∧ x ≤ 65536) : 0 ≤ capA (s.take k) * x ∧ capA (s.take k) * x ≤ 4295032832 := by
  have h1 := cap_le (s.take k)
  refine ⟨Int.mul_nonneg h0 h.1, ?_⟩
  have := Int.mul_le_mul h1 h.2 h.1 (by omega)
  omega
theorem ith_take {s : List Int} {k j : Nat} (h : j < k) : ith (s.take k) j = ith s j := by
  unfold ith
  rw [List.getD_eq_getElem?_getD, List.getD_eq_getElem?_getD, List.getElem?_take, if_pos h]
theorem nn_take {s : List Int} {k : Nat} (h : ∀ j, j < k → 0 ≤ ith s j ∧ ith s j ≤ 65536) : ∀ x ∈ s.take k, 0 ≤ x := by
  refine all_ith fun j hj => ?_
  rw [List.length_take] at hj
  rw [ith_take (by omega)]
  exact (h j (by omega)).1
theorem cap_end {s : List Int} (h4 : s.length ≤ 4) (h : ∀ j, j < s.length → 0 ≤ ith s j ∧ ith s j ≤ 65536) : (65536 < capA s → ¬ okA s) ∧ (capA s ≤ 65536 → okA s ∧ capA s = prodA s) := by
  constructor
  · intro hc g
    have := g.2.2
    unfold capA at hc
    split at hc <;> omega
  · intro hc
    have : prodA s ≤ 65536 ∧ capA s = prodA s := by
      unfold capA at hc ⊢
      split at hc
      · rename_i h; rw [if_pos h]; omega
      · omega
    exact ⟨⟨h4, all_ith h, this.1⟩, this.2⟩
/-! ### the document's size -/
/-- 0, if one of the first k is 0; else 1. -/
def zerA (s : List Int) : Int := if 0 ∈ s then 0 else 1
theorem zer_snoc {s : List Int} {k : Nat} (hk : k < s.length) : zerA (s.take (k + 1)) = if ith s k = 0 then 0 else zerA (s.take k) := by
  unfold zerA
  rw [ith_take_snoc hk]
  by_cases h : ith s k = 0
  · rw [if_pos h, if_pos (by rw [h]; simp)]
  · rw [if_neg h]
    by_cases h2 : 0 ∈ s.take k
    · rw [if_pos h2, if_pos (by simp [h2])]
    · rw [if_neg h2, if_neg (by simp [h2]; omega)]
theorem zer_01 (s : List Int) : zerA s = 0 ∨ zerA s = 1 := by unfold zerA; split <;> simp
theorem zer_end0 {s : List Int} (h : zerA s = 0) : prodA s = 0 := by
  unfold zerA at h
  split at h
  · exact prodA_zero ‹_›
  · cases h
theorem zer_end1 {s : List Int} (h : zerA s = 1) (hn : ∀ j, j < s.length → 0 ≤ ith s j ∧ ith s j ≤ 65536) : ∀ x ∈ s, 0 < x := by
  intro x hx
  have := all_ith (P := fun x => 0 ≤ x ∧ x ≤ 65536) hn x hx
  unfold zerA at h
  split at h
  · cases h
  · rename_i h0
    have h1 : x ≠ 0 := fun e => h0 (e ▸ hx)
    omega
theorem pos_take {s : List Int} (h : ∀ x ∈ s, 0 < x) (k : Nat) : ∀ x ∈ s.take k, 0 < x := fun x hx => h x (List.mem_of_mem_take hx)
theorem prod_over {s : List Int} (h : ∀ x ∈ s, 0 < x) (k : Nat) (hb : 65536 < prodA (s.take k)) : ¬ okA s := fun g => by
  have h1 := prod_take_le (s := s.take k) (t := s.drop k) (pos_take h k) (fun x hx => h x (List.mem_of_mem_drop hx))
  rw [List.take_append_drop] at h1
  have := g.2.2
  omega
theorem mul_bound {p x : Int} (h0 : 0 ≤ p ∧ p ≤ 65536) (h : 0 ≤ x ∧ x ≤ 65536) : 0 ≤ p * x ∧ p * x ≤ 4294967296 := by
  refine ⟨Int.mul_nonneg h0.1 h.1, ?_⟩
  have := Int.mul_le_mul h0.2 h.2 h.1 (by omega)
  omega
/-- An array is one. -/
def rightB (s d : List Int) : Bool := decide (okA s) && decide (prodA s = d.length)
theorem right_yes {s d : List Int} (h : rightB s d = true) : okA s ∧ prodA s = d.length := by simpa [rightB] using h
theorem right_mk {s d : List Int} (h : okA s) (g : prodA s = d.length) : rightB s d = true := by simp [rightB, h, g]
theorem right_no1 {s d : List Int} (h : ¬ okA s) : rightB s d = false := by simp [rightB, h]
theorem right_no2 {s d : List Int} (h : ¬ prodA s = d.length) : rightB s d = false := by simp [rightB, h]
end Go.Proofs.Ytedfjmidcljmoaa
