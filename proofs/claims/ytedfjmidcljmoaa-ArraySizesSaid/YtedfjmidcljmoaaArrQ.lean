
/- Arrays (layer 6), pure: places by the code's way. -/
import Derived.Test.YtedfjmidcljmoaaArrP
namespace Go.Proofs.Ytedfjmidcljmoaa
set_option linter.unusedVariables false
theorem pl_snoc : ∀ (s i : List Int) (a x : Int), i.length = s.length → plA (s ++ [a]) (i ++ [x]) = plA s i * a + x
  | [], [], a, x, _ => by show x * 1 + 0 = 0 * a + x; omega
  | b :: s, y :: i, a, x, h => by
    show y * prodA (s ++ [a]) + plA (s ++ [a]) (i ++ [x]) = (y * prodA s + plA s i) * a + x
    rw [pl_snoc s i a x (by simpa using h), prodA_app]
    show y * (prodA s * (a * 1)) + _ = _
    rw [Int.mul_one, Int.add_mul, Int.mul_assoc]; omega
/-- The place of the first k. -/
def hoA (s i : List Int) (k : Nat) : Int := plA (s.take k) (i.take k)
theorem ho_zero (s i : List Int) : hoA s i 0 = 0 := rfl
theorem ho_snoc {s i : List Int} {k : Nat} (hl : i.length = s.length) (hk : k < s.length) : hoA s i (k + 1) = hoA s i k * ith s k + ith i k := by
  unfold hoA
  rw [ith_take_snoc hk, ith_take_snoc (show k < i.length by omega), pl_snoc _ _ _ _ (by rw [List.length_take, List.length_take]; omega)]
theorem ho_end {s i : List Int} (hl : i.length = s.length) : hoA s i s.length = plA s i := by
  unfold hoA
  rw [List.take_of_length_le (Nat.le_refl _), List.take_of_length_le (by omega)]
/-- The first k are below. -/
def beA (s i : List Int) (k : Nat) : Prop := ∀ j, j < k → 0 ≤ ith i j ∧ ith i j < ith s j
theorem be_in {s i : List Int} (hl : i.length = s.length) (h : beA s i s.length) : inA s i := (inA_iff hl).2 h
theorem in_be {s i : List Int} (h : inA s i) : beA s i s.length := (inA_iff (inA_len h)).1 h
theorem be_take {s i : List Int} {k : Nat} (hl : i.length = s.length) (hk : k ≤ s.length) (h : beA s i k) : inA (s.take k) (i.take k) := by
  refine (inA_iff (by rw [List.length_take, List.length_take, hl])).2 fun j hj => ?_
  rw [List.length_take] at hj
  have := h j (by omega)
  rw [← ith_take (s := i) (k := k) (by omega), ← ith_take (s := s) (k := k) (by omega)] at this
  exact this
theorem prod_pow {s : List Int} (h : ∀ x ∈ s, 0 ≤ x ∧ x ≤ 65536) : ∀ k, prodA (s.take k) ≤ 65536 ^ k := by
  intro k
  induction k with
  | zero => exact Int.le_refl _
  | succ k ih =>
    rcases Nat.lt_or_ge k s.length with hk | hk
    · rw [prod_snoc s hk, Int.pow_succ]
      exact Int.mul_le_mul ih (h _ (ith_mem hk)).2 (h _ (ith_mem hk)).1 (Int.pow_nonneg (by omega))
    · rw [List.take_of_length_le (by omega)]
      rw [List.take_of_length_le (by omega)] at ih
      refine Int.le_trans ih ?_
      rw [Int.pow_succ]
      have : (0 : Int) ≤ 65536 ^ k := Int.pow_nonneg (by omega)
      omega
theorem prod_48 {s : List Int} {k : Nat} (h : okA s) (hk : k ≤ s.length) : prodA (s.take k) ≤ 281474976710656 := by
  rcases Nat.lt_or_ge k s.length with hlt | hge
  · have h1 := prod_pow h.2.1 k
    have h3 : k ≤ 3 := by have := h.1; omega
    match k, h3 with
    | 0, _ => exact Int.le_trans h1 (by decide)
    | 1, _ => exact Int.le_trans h1 (by decide)
    | 2, _ => exact Int.le_trans h1 (by decide)
    | 3, _ => exact Int.le_trans h1 (by decide)
  · rw [List.take_of_length_le hge]
    have := h.2.2
    omega
theorem ho_bound {s i : List Int} {k : Nat} (ho : okA s) (hl : i.length = s.length) (hk : k ≤ s.length) (h : beA s i k) : 0 ≤ hoA s i k ∧ hoA s i k ≤ 281474976710656 := by
  have h1 := plA_rng (be_take hl hk h)
  have h2 := prod_48 ho hk
  unfold hoA
  omega
theorem ho_mul {s i : List Int} {k : Nat} (ho : okA s) (hl : i.length = s.length) (hk : k < s.length) (h : beA s i k) (h1 : 0 ≤ ith i k) (h2 : ith i k < ith s k) :
    0 ≤ hoA s i k * ith s k ∧ hoA s i k * ith s k ≤ 281474976710656 := by
  have hb : beA s i (k + 1) := fun j hj => by
    rcases Nat.lt_or_ge j k with h3 | h3
    · exact h j h3
    · obtain rfl : j = k := by omega
      exact ⟨h1, h2⟩
  have h3 := ho_bound ho hl (by omega) hb
  rw [ho_snoc hl hk] at h3
  have h4 := (ho_bound ho hl (by omega) h).1
  have h5 : 0 ≤ hoA s i k * ith s k := Int.mul_nonneg h4 (by omega)
  omega
/-- What Place answers. -/
def plR (s i : List Int) : Int × Int := if okA s then if inA s i then (plA s i, 0) else (0, 62) else (0, 61)
theorem pl_yes {s i : List Int} (h : okA s) (g : inA s i) : plR s i = (plA s i, 0) := by unfold plR; rw [if_pos h, if_pos g]
theorem pl_none {s i : List Int} (h : okA s) (g : ¬ inA s i) : plR s i = (0, 62) := by unfold plR; rw [if_pos h, if_neg g]
theorem pl_no {s i : List Int} (h : ¬ okA s) : plR s i = (0, 61) := if_neg h
theorem not_in_len {s i : List Int} (h : ¬ i.length = s.length) : ¬ inA s i := fun g => h (inA_len g)
theorem not_in_at {s i : List Int} {k : Nat} (hk : k < s.length) (h : ¬ (0 ≤ ith i k ∧ ith i k < ith s k)) : ¬ inA s i := fun g => h (in_be g k hk)
/-- What Index answers. -/
def ixR (s : List Int) (p : Int) : List Int × Int := if okA s then if 0 ≤ p ∧ p < prodA s then (ixA s p, 0) else ([], 62) else ([], 61)
theorem ix_yes {s : List Int} {p : Int} (h : okA s) (g : 0 ≤ p ∧ p < prodA s) : ixR s p = (ixA s p, 0) := by unfold ixR; rw [if_pos h, if_pos g]
theorem ix_none {s : List Int} {p : Int} (h : okA s) (g : ¬ (0 ≤ p ∧ p < prodA s)) : ixR s p = ([], 62) := by unfold ixR; rw [if_pos h, if_neg g]
theorem ix_no {s : List Int} {p : Int} (h : ¬ okA s) : ixR s p = ([], 61) := if_neg h
theorem ok_pos {s : List Int} {p : Int} (h : okA s) (g : 0 ≤ p ∧ p < prodA s) : ∀ x ∈ s, 0 < x := pos_of_prod (ok_nn h) (by omega)
/-- From the last side on: what is left of a place, and the index so far, where k sides are left. -/
def lfA (s : List Int) (p : Int) (k : Nat) : Int := p / prodA (s.drop k)
def upA (s : List Int) (p : Int) (k : Nat) : List Int := ixA (s.drop k) (p % prodA (s.drop k))
theorem drop_ith {s : List Int} {k : Nat} (h : k < s.length) : s.drop k = ith s k :: s.drop (k + 1) := by
  rw [List.drop_eq_getElem_cons h]
  have := ith_get h
  rw [List.getElem?_eq_getElem h] at this
  injection this with this
  rw [this]
theorem lf_start (s : List Int) (p : Int) : lfA s p s.length = p := by unfold lfA; rw [List.drop_length]; show p / 1 = p; exact Int.ediv_one p
theorem up_start (s : List Int) (p : Int) : upA s p s.length = [] := by unfold upA; rw [List.drop_length]; rfl
theorem lf_step {s : List Int} {p : Int} {k : Nat} (hs : ∀ x ∈ s, 0 < x) (hk : k < s.length) : lfA s p k = lfA s p (k + 1) / ith s k := by
  unfold lfA
  rw [drop_ith hk]
  exact ix_div (hs _ (ith_mem hk)) (fun x hx => hs x (List.mem_of_mem_drop hx))
theorem up_step {s : List Int} {p : Int} {k : Nat} (hs : ∀ x ∈ s, 0 < x) (hk : k < s.length) : upA s p k = lfA s p (k + 1) % ith s k :: upA s p (k + 1) := by
  unfold upA lfA
  rw [drop_ith hk]
  exact ix_step (hs _ (ith_mem hk)) (fun x hx => hs x (List.mem_of_mem_drop hx))
theorem up_end {s : List Int} {p : Int} (h : 0 ≤ p ∧ p < prodA s) : upA s p 0 = ixA s p := by
  unfold upA
  rw [List.drop_zero, Int.emod_eq_of_lt h.1 h.2]
theorem lf_nn {s : List Int} {p : Int} {k : Nat} (hs : ∀ x ∈ s, 0 < x) (h : 0 ≤ p) : 0 ≤ lfA s p k := Int.ediv_nonneg h (Int.le_of_lt (prodA_pos fun x hx => hs x (List.mem_of_mem_drop hx)))
theorem lf_le {s : List Int} {p : Int} {k : Nat} (hs : ∀ x ∈ s, 0 < x) (h : 0 ≤ p) : lfA s p k ≤ p := by
  have := prodA_pos fun x hx => hs x (List.mem_of_mem_drop (i := k) hx)
  exact Int.ediv_le_self _ h
/-- The list so far: the sides that are left, the index from there on. -/
def mixA (s : List Int) (p : Int) (k : Nat) : List Int := s.take k ++ upA s p k
theorem up_len (s : List Int) (p : Int) (k : Nat) : (upA s p k).length = s.length - k := by unfold upA; rw [ixA_len, List.length_drop]
theorem mix_len {s : List Int} {p : Int} {k : Nat} (h : k ≤ s.length) : (mixA s p k).length = s.length := by
  unfold mixA; rw [List.length_append, up_len, List.length_take]; omega
theorem mix_start (s : List Int) (p : Int) : mixA s p s.length = s := by unfold mixA; rw [up_start, List.take_length, List.append_nil]
theorem mix_end {s : List Int} {p : Int} (h : 0 ≤ p ∧ p < prodA s) : mixA s p 0 = ixA s p := by unfold mixA; rw [up_end h]; rfl
theorem mix_at {s : List Int} {p : Int} {k : Nat} (h : k < s.length) : ith (mixA s p (k + 1)) k = ith s k := by
  unfold mixA ith
  rw [List.getD_eq_getElem?_getD, List.getD_eq_getElem?_getD, List.getElem?_append_left (by rw [List.length_take]; omega), List.getElem?_take, if_pos (by omega)]
theorem mix_step {s : List Int} {p : Int} {k : Nat} (hs : ∀ x ∈ s, 0 < x) (hk : k < s.length) : (mixA s p (k + 1)).set k (lfA s p (k + 1) % ith s k) = mixA s p k := by
  unfold mixA
  rw [up_step hs hk, ith_take_snoc hk, List.append_assoc, List.set_append_right _ _ (by rw [List.length_take]; omega), List.length_take]
  rw [show k - min k s.length = 0 by omega]
  rfl
end Go.Proofs.Ytedfjmidcljmoaa
