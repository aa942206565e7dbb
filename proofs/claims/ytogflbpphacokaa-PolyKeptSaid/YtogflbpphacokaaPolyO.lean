/- All products of two lists, one behind the other. -/
import Derived.Test.YtogflbpphacokaaPolyN
namespace Go.Proofs.Ytogflbpphacokaa

theorem prods_len (p q : List Mo) : (prods p q).length = p.length * q.length := by
  induction p with
  | nil => simp [prods]
  | cons a p ih => simp only [prods, List.flatMap_cons, List.length_append, List.length_map, List.length_cons] at ih ⊢; rw [ih, Nat.add_mul, Nat.one_mul, Nat.add_comm]
theorem nth_prods {p q : List Mo} : ∀ {i k : Nat}, i < p.length → k < q.length → nth (prods p q) (i * q.length + k) = (nth p i).mul (nth q k) := by
  induction p with
  | nil => intro i k h; simp at h
  | cons a p ih =>
    intro i k hi hk
    have e : prods (a :: p) q = (q.map fun b => a.mul b) ++ prods p q := by simp [prods]
    have hml : (q.map fun b => a.mul b).length = q.length := by simp
    rw [e]
    cases i with
    | zero =>
      have : nth ((q.map fun b => a.mul b) ++ prods p q) k = a.mul (nth q k) := by
        unfold nth; rw [List.getD_eq_getElem?_getD, List.getD_eq_getElem?_getD, List.getElem?_append_left (by omega), List.getElem?_map, List.getElem?_eq_getElem hk]; rfl
      rw [Nat.zero_mul, Nat.zero_add, this]; rfl
    | succ i =>
      have : nth ((q.map fun b => a.mul b) ++ prods p q) ((i + 1) * q.length + k) = nth (prods p q) (i * q.length + k) := by
        unfold nth; rw [List.getD_eq_getElem?_getD, List.getD_eq_getElem?_getD, List.getElem?_append_right (by rw [hml, Nat.add_mul]; omega), hml]
        congr 2; rw [Nat.add_mul]; omega
      rw [this, nth_cons_succ]; exact ih (by simpa using hi) hk
/-- A monomial with another exponent of variable v. -/
def Mo.setE (m : Mo) (v : Nat) (x : Int) : Mo := match v with
  | 0 => { m with e0 := x }
  | 1 => { m with e1 := x }
  | 2 => { m with e2 := x }
  | 3 => { m with e3 := x }
  | 4 => { m with e4 := x }
  | 5 => { m with e5 := x }
  | _ => m
/-- The product, as far as the first v exponents are put together. -/
def Mo.mulTo (a b : Mo) (v : Nat) : Mo := match v with
  | 0 => ⟨a.n * b.n, 0, 0, 0, 0, 0, 0⟩
  | v + 1 => (a.mulTo b v).setE v (a.e v + b.e v)
theorem mulTo6 (a b : Mo) : a.mulTo b 6 = a.mul b := rfl
theorem mem_prods {p q : List Mo} {m : Mo} (h : m ∈ prods p q) : ∃ a ∈ p, ∃ b ∈ q, m = a.mul b := by
  obtain ⟨a, ha, h⟩ := List.mem_flatMap.1 h
  obtain ⟨b, hb, rfl⟩ := List.mem_map.1 h
  exact ⟨a, ha, b, hb, rfl⟩
theorem mul_bd {x y : Int} (hx : -16777216 ≤ x ∧ x ≤ 16777216) (hy : -16777216 ≤ y ∧ y ≤ 16777216) : -281474976710656 ≤ x * y ∧ x * y ≤ 281474976710656 := by
  have h1 : (16777216 - x) * (16777216 + y) ≥ 0 := Int.mul_nonneg (by omega) (by omega)
  have h2 : (16777216 + x) * (16777216 - y) ≥ 0 := Int.mul_nonneg (by omega) (by omega)
  have h3 : (16777216 - x) * (16777216 - y) ≥ 0 := Int.mul_nonneg (by omega) (by omega)
  have h4 : (16777216 + x) * (16777216 + y) ≥ 0 := Int.mul_nonneg (by omega) (by omega)
  simp only [Int.sub_mul, Int.mul_sub, Int.add_mul, Int.mul_add] at h1 h2 h3 h4
  omega
theorem small_e {m : Mo} (h : m.wf) (hd : m.deg ≤ 8) : (0 ≤ m.e0 ∧ m.e0 ≤ 8) ∧ (0 ≤ m.e1 ∧ m.e1 ≤ 8) ∧ (0 ≤ m.e2 ∧ m.e2 ≤ 8) ∧ (0 ≤ m.e3 ∧ m.e3 ≤ 8) ∧ (0 ≤ m.e4 ∧ m.e4 ≤ 8) ∧ (0 ≤ m.e5 ∧ m.e5 ≤ 8) := by
  have := Mo.es h; unfold Mo.deg at hd; omega
theorem small_ek {m : Mo} (h : m.wf) (hd : m.deg ≤ 8) (k : Nat) : 0 ≤ m.e k ∧ m.e k ≤ 8 := by
  obtain ⟨h0, h1, h2, h3, h4, h5⟩ := small_e h hd
  match k with
  | 0 => exact h0
  | 1 => exact h1
  | 2 => exact h2
  | 3 => exact h3
  | 4 => exact h4
  | 5 => exact h5
  | k + 6 => simp [Mo.e]
theorem wf_mul {a b : Mo} (ha : a.wf) (hb : b.wf) (da : a.deg ≤ 8) (db : b.deg ≤ 8) (na : -16777216 ≤ a.n ∧ a.n ≤ 16777216) (nb : -16777216 ≤ b.n ∧ b.n ≤ 16777216) : (a.mul b).wf ∧ -281474976710656 ≤ (a.mul b).n ∧ (a.mul b).n ≤ 281474976710656 := by
  have h := mul_bd na nb
  obtain ⟨a0, a1, a2, a3, a4, a5⟩ := small_e ha da
  obtain ⟨b0, b1, b2, b3, b4, b5⟩ := small_e hb db
  refine ⟨Mo.wf_mk ?_ ?_ ?_ ?_ ?_ ?_ ?_, h⟩
  · show _ ≤ a.n * b.n ∧ a.n * b.n ≤ _; omega
  · show 0 ≤ a.e0 + b.e0 ∧ a.e0 + b.e0 ≤ 255; omega
  · show 0 ≤ a.e1 + b.e1 ∧ a.e1 + b.e1 ≤ 255; omega
  · show 0 ≤ a.e2 + b.e2 ∧ a.e2 + b.e2 ≤ 255; omega
  · show 0 ≤ a.e3 + b.e3 ∧ a.e3 + b.e3 ≤ 255; omega
  · show 0 ≤ a.e4 + b.e4 ∧ a.e4 + b.e4 ≤ 255; omega
  · show 0 ≤ a.e5 + b.e5 ∧ a.e5 + b.e5 ≤ 255; omega
end Go.Proofs.Ytogflbpphacokaa
