
/- Arrays (layer 6), pure: sizes, places, indexes. -/
namespace Go.Proofs.Ytedfjmidcljmoaa
set_option linter.unusedVariables false
/-- The product of sides. -/
def prodA : List Int → Int
  | [] => 1
  | a :: s => a * prodA s
/-- Sides that are right. -/
def okA (s : List Int) : Prop := s.length ≤ 4 ∧ (∀ x ∈ s, 0 ≤ x ∧ x ≤ 65536) ∧ prodA s ≤ 65536
instance (s : List Int) : Decidable (okA s) := by unfold okA; infer_instance
/-- An index by sides. -/
def inA : List Int → List Int → Prop
  | [], [] => True
  | a :: s, x :: i => 0 ≤ x ∧ x < a ∧ inA s i
  | _, _ => False
instance inA_dec : (s i : List Int) → Decidable (inA s i)
  | [], [] => .isTrue trivial
  | a :: s, x :: i => by
    have := inA_dec s i
    unfold inA; infer_instance
  | [], _ :: _ => .isFalse (fun h => h)
  | _ :: _, [] => .isFalse (fun h => h)
/-- Its place. -/
def plA : List Int → List Int → Int
  | a :: s, x :: i => x * prodA s + plA s i
  | _, _ => 0
/-- The index at a place. -/
def ixA : List Int → Int → List Int
  | [], _ => []
  | a :: s, p => p / prodA s :: ixA s (p % prodA s)
theorem prodA_nn : ∀ {s : List Int}, (∀ x ∈ s, 0 ≤ x) → 0 ≤ prodA s
  | [], _ => by decide
  | a :: s, h => Int.mul_nonneg (h a (List.mem_cons_self ..)) (prodA_nn fun x hx => h x (List.mem_cons_of_mem _ hx))
theorem prodA_pos : ∀ {s : List Int}, (∀ x ∈ s, 0 < x) → 0 < prodA s
  | [], _ => by decide
  | a :: s, h => Int.mul_pos (h a (List.mem_cons_self ..)) (prodA_pos fun x hx => h x (List.mem_cons_of_mem _ hx))
theorem prodA_app : ∀ (s t : List Int), prodA (s ++ t) = prodA s * prodA t
  | [], t => by rw [List.nil_append]; show prodA t = 1 * prodA t; rw [Int.one_mul]
  | a :: s, t => by rw [List.cons_append]; show a * prodA (s ++ t) = a * prodA s * prodA t; rw [prodA_app s t, Int.mul_assoc]
theorem prodA_zero : ∀ {s : List Int}, 0 ∈ s → prodA s = 0
  | [], h => by cases h
  | a :: s, h => by
    show a * prodA s = 0
    rcases List.mem_cons.1 h with h | h
    · rw [← h, Int.zero_mul]
    · rw [prodA_zero h, Int.mul_zero]
theorem inA_len : ∀ {s i : List Int}, inA s i → i.length = s.length
  | [], [], _ => rfl
  | _ :: s, _ :: i, h => by rw [List.length_cons, List.length_cons, inA_len h.2.2]
theorem inA_pos : ∀ {s i : List Int}, inA s i → ∀ x ∈ s, 0 < x
  | [], [], _, x, hx => by cases hx
  | a :: s, y :: i, h, x, hx => by
    rcases List.mem_cons.1 hx with rfl | hx
    · have := h.1; have := h.2.1; omega
    · exact inA_pos h.2.2 x hx
theorem inA_iff : ∀ {s i : List Int}, i.length = s.length → (inA s i ↔ ∀ k, k < s.length → 0 ≤ i.getD k 0 ∧ i.getD k 0 < s.getD k 0)
  | [], [], _ => ⟨fun _ k hk => absurd hk (Nat.not_lt_zero k), fun _ => trivial⟩
  | a :: s, x :: i, h => by
    have hl : i.length = s.length := by simpa using h
    refine ⟨fun hi k hk => ?_, fun hi => ⟨(hi 0 (by simp)).1, (hi 0 (by simp)).2, (inA_iff hl).2 fun k hk => ?_⟩⟩
    · cases k with
      | zero => exact ⟨hi.1, hi.2.1⟩
      | succ k => simpa using (inA_iff hl).1 hi.2.2 k (by simpa using hk)
    · simpa using hi (k + 1) (by simpa using hk)
theorem plA_rng : ∀ {s i : List Int}, inA s i → 0 ≤ plA s i ∧ plA s i < prodA s
  | [], [], _ => by decide
  | a :: s, x :: i, h => by
    have ih := plA_rng h.2.2
    have hp := prodA_pos (inA_pos h.2.2)
    show 0 ≤ x * prodA s + plA s i ∧ x * prodA s + plA s i < a * prodA s
    have h1 : 0 ≤ x * prodA s := Int.mul_nonneg h.1 (by omega)
    have h2 : (x + 1) * prodA s ≤ a * prodA s := Int.mul_le_mul_of_nonneg_right (by have := h.2.1; omega) (by omega)
    rw [Int.add_mul, Int.one_mul] at h2
    omega
theorem ixA_len : ∀ (s : List Int) (p : Int), (ixA s p).length = s.length
  | [], _ => rfl
  | a :: s, p => by show (ixA s _).length + 1 = s.length + 1; rw [ixA_len s]
theorem ix_pl : ∀ {s i : List Int}, inA s i → ixA s (plA s i) = i
  | [], [], _ => rfl
  | a :: s, x :: i, h => by
    have hr := plA_rng h.2.2
    have hp := prodA_pos (inA_pos h.2.2)
    show (x * prodA s + plA s i) / prodA s :: ixA s ((x * prodA s + plA s i) % prodA s) = x :: i
    have h1 : (x * prodA s + plA s i) / prodA s = x := by
      rw [Int.add_comm, Int.add_mul_ediv_right _ _ (by omega), Int.ediv_eq_zero_of_lt hr.1 hr.2, Int.zero_add]
    have h2 : (x * prodA s + plA s i) % prodA s = plA s i := by
      rw [Int.add_comm, Int.add_mul_emod_self_right, Int.emod_eq_of_lt hr.1 hr.2]
    rw [h1, h2, ix_pl h.2.2]
theorem prod_parts {a q : Int} (ha : 0 ≤ a) (hq : 0 ≤ q) (h : 0 < a * q) : 0 < a ∧ 0 < q := by
  constructor
  · rcases Int.lt_or_eq_of_le ha with h1 | h1
    · exact h1
    · rw [← h1, Int.zero_mul] at h; omega
  · rcases Int.lt_or_eq_of_le hq with h1 | h1
    · exact h1
    · rw [← h1, Int.mul_zero] at h; omega
theorem ix_in : ∀ {s : List Int} {p : Int}, (∀ x ∈ s, 0 ≤ x) → 0 ≤ p → p < prodA s → inA s (ixA s p) ∧ plA s (ixA s p) = p
  | [], p, _, h0, h1 => ⟨trivial, by have : p < 1 := h1; show (0 : Int) = p; omega⟩
  | a :: s, p, hs, h0, h1 => by
    have h1 : p < a * prodA s := h1
    have hn := prodA_nn fun x hx => hs x (List.mem_cons_of_mem _ hx)
    have hp := (prod_parts (hs a (List.mem_cons_self ..)) hn (by omega)).2
    have ih := ix_in (p := p % prodA s) (fun x hx => hs x (List.mem_cons_of_mem _ hx)) (Int.emod_nonneg _ (by omega)) (Int.emod_lt_of_pos _ hp)
    refine ⟨⟨Int.ediv_nonneg h0 (by omega), Int.ediv_lt_of_lt_mul hp h1, ih.1⟩, ?_⟩
    show p / prodA s * prodA s + plA s (ixA s (p % prodA s)) = p
    rw [ih.2, Int.mul_comm]
    exact Int.mul_ediv_add_emod p (prodA s)
/-- Of two indexes the one that is ahead has the lesser place. -/
theorem pl_lt : ∀ {s i j : List Int} {k : Nat}, inA s i → inA s j → k < s.length → (∀ t, t < k → i.getD t 0 = j.getD t 0) → i.getD k 0 < j.getD k 0 → plA s i < plA s j
  | [], _, _, k, _, _, hk, _, _ => by cases hk
  | a :: s, x :: i, y :: j, k, hi, hj, hk, he, hl => by
    have hri := plA_rng hi.2.2
    have hrj := plA_rng hj.2.2
    show x * prodA s + plA s i < y * prodA s + plA s j
    cases k with
    | zero =>
      have hl : x < y := hl
      have h2 : (x + 1) * prodA s ≤ y * prodA s := Int.mul_le_mul_of_nonneg_right (by omega) (by omega)
      rw [Int.add_mul, Int.one_mul] at h2
      omega
    | succ k =>
      have h0 : x = y := he 0 (by omega)
      have := pl_lt (k := k) hi.2.2 hj.2.2 (by simpa using hk) (fun t ht => by simpa using he (t + 1) (by omega)) (by simpa using hl)
      rw [h0]; omega
theorem pl_inj {s i j : List Int} (hi : inA s i) (hj : inA s j) (h : plA s i = plA s j) : i = j := by
  rw [← ix_pl hi, h, ix_pl hj]
/-! ### loops -/
/-- Places, counted on from the front. -/
theorem pl_horner : ∀ (s i : List Int) (n : Int), i.length = s.length → (List.zip s i).foldl (fun n x => n * x.1 + x.2) n = n * prodA s + plA s i
  | [], [], n, _ => by show n = n * 1 + 0; omega
  | a :: s, x :: i, n, h => by
    rw [List.zip_cons_cons, List.foldl_cons, pl_horner s i _ (by simpa using h)]
    show (n * a + x) * prodA s + plA s i = n * (a * prodA s) + (x * prodA s + plA s i)
    rw [Int.add_mul, Int.mul_assoc]; omega
/-- Indexes, from the last side on: one side more. -/
theorem mod_div {p a q : Int} (ha : 0 < a) (hq : 0 < q) : p % (a * q) / q = p / q % a ∧ p % (a * q) % q = p % q ∧ p / (a * q) = p / q / a := by
  have h1 := Int.mul_ediv_add_emod p q
  have h2 := Int.mul_ediv_add_emod (p / q) a
  have r1 := Int.emod_nonneg p (Int.ne_of_gt hq)
  have r2 := Int.emod_lt_of_pos p hq
  have s1 := Int.emod_nonneg (p / q) (Int.ne_of_gt ha)
  have s2 := Int.emod_lt_of_pos (p / q) ha
  have hb1 : 0 ≤ q * (p / q % a) + p % q := Int.add_nonneg (Int.mul_nonneg (by omega) s1) r1
  have hb2 : q * (p / q % a) + p % q < a * q := by
    have : q * (p / q % a + 1) ≤ q * a := Int.mul_le_mul_of_nonneg_left (by omega) (by omega)
    rw [Int.mul_add, Int.mul_one] at this
    rw [Int.mul_comm a q]; omega
  have he : p = (q * (p / q % a) + p % q) + a * q * (p / q / a) := by
    have h3 : q * (a * (p / q / a) + p / q % a) + p % q = p := by rw [h2, h1]
    rw [Int.mul_add, ← Int.mul_assoc, Int.mul_comm q a] at h3
    omega
  have hm : p % (a * q) = q * (p / q % a) + p % q := by
    conv => lhs; rw [he]
    rw [Int.add_mul_emod_self_left, Int.emod_eq_of_lt hb1 hb2]
  have hd : p / (a * q) = p / q / a := by
    conv => lhs; rw [he]
    rw [Int.add_mul_ediv_left _ _ (Int.ne_of_gt (Int.mul_pos ha hq)), Int.ediv_eq_zero_of_lt hb1 hb2, Int.zero_add]
  refine ⟨?_, ?_, hd⟩
  · rw [hm, Int.add_comm, Int.add_mul_ediv_left _ _ (Int.ne_of_gt hq), Int.ediv_eq_zero_of_lt r1 r2, Int.zero_add]
  · rw [hm, Int.add_comm, Int.add_mul_emod_self_left, Int.emod_eq_of_lt r1 r2]
theorem ix_step {p a : Int} {t : List Int} (ha : 0 < a) (ht : ∀ x ∈ t, 0 < x) : ixA (a :: t) (p % prodA (a :: t)) = p / prodA t % a :: ixA t (p % prodA t) := by
  have h := mod_div (p := p) ha (prodA_pos ht)
  show p % (a * prodA t) / prodA t :: ixA t (p % (a * prodA t) % prodA t) = _
  rw [h.1, h.2.1]
theorem ix_div {p a : Int} {t : List Int} (ha : 0 < a) (ht : ∀ x ∈ t, 0 < x) : p / prodA (a :: t) = p / prodA t / a := (mod_div ha (prodA_pos ht)).2.2
/-- Sides whose product is above 0 are above 0. -/
theorem pos_of_prod : ∀ {s : List Int}, (∀ x ∈ s, 0 ≤ x) → 0 < prodA s → ∀ x ∈ s, 0 < x
  | [], _, _, x, hx => by cases hx
  | a :: s, hs, h, x, hx => by
    have hn := prodA_nn fun y hy => hs y (List.mem_cons_of_mem _ hy)
    have hp := prod_parts (hs a (List.mem_cons_self ..)) hn h
    rcases List.mem_cons.1 hx with rfl | hx
    · exact hp.1
    · exact pos_of_prod (fun y hy => hs y (List.mem_cons_of_mem _ hy)) hp.2 x hx
/-- A product that is too great stays so. -/
theorem prod_ge : ∀ {s : List Int}, (∀ x ∈ s, 0 < x) → 1 ≤ prodA s
  | s, h => by have := prodA_pos h; omega
theorem prod_take_le {s t : List Int} (hs : ∀ x ∈ s, 0 < x) (ht : ∀ x ∈ t, 0 < x) : prodA s ≤ prodA (s ++ t) := by
  rw [prodA_app]
  have h1 := prodA_pos hs
  have h2 := Int.mul_le_mul_of_nonneg_left (prod_ge ht) (Int.le_of_lt h1)
  rwa [Int.mul_one] at h2
end Go.Proofs.Ytedfjmidcljmoaa
