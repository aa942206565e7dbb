/- Contracts: put, whole: the document's lists in order. -/
import Derived.Laws.OwnMore
import Derived.Deep.AppendLies
import Derived.Lib.SmallJoins
import Derived.Deep.Frames
import Derived.Test.YtogflbpphacokaaPolyE
namespace Go.Proofs.Ytogflbpphacokaa
open Go.RowKit

theorem flat_set7 (m : Mo) : ∀ (l : List Mo) (k : Nat), k < l.length → (((((((l.flatMap Mo.cells).set (k * 7) (.int .i64 m.n)).set (k * 7 + 1) (.int .u8 m.e0)).set (k * 7 + 2) (.int .u8 m.e1)).set (k * 7 + 3) (.int .u8 m.e2)).set (k * 7 + 4) (.int .u8 m.e3)).set (k * 7 + 5) (.int .u8 m.e4)).set (k * 7 + 6) (.int .u8 m.e5) = (l.set k m).flatMap Mo.cells
  | [], k, h => by simp at h
  | a :: t, 0, _ => by simp [List.flatMap_cons, Mo.cells]
  | a :: t, k + 1, h => by
    have ih := flat_set7 m t k (by simpa using h)
    have e : ∀ j v, j < 7 → ∀ x : List Value, (a.cells ++ x).set ((k + 1) * 7 + j) v = a.cells ++ x.set (k * 7 + j) v := fun j v hj x => by
      rw [List.set_append, if_neg (by simp [Mo.cells]; omega)]
      congr 1
      simp only [Mo.cells, List.length_cons, List.length_nil]
      congr 1
      omega
    have e0 := fun v x => e 0 v (by omega) x
    simp only [Nat.add_zero] at e0
    rw [List.set_cons_succ, List.flatMap_cons, List.flatMap_cons, e0, e 1 _ (by omega), e 2 _ (by omega), e 3 _ (by omega), e 4 _ (by omega), e 5 _ (by omega), e 6 _ (by omega), ih]
theorem flat_set1 (n : Int) : ∀ (l : List Mo) (k : Nat), k < l.length → (l.flatMap Mo.cells).set (k * 7) (.int .i64 n) = (l.set k { nth l k with n := n }).flatMap Mo.cells
  | [], k, h => by simp at h
  | a :: t, 0, _ => by simp [List.flatMap_cons, Mo.cells, nth]
  | a :: t, k + 1, h => by
    have ih := flat_set1 n t k (by simpa using h)
    rw [List.set_cons_succ, List.flatMap_cons, List.flatMap_cons, List.set_append, if_neg (by simp [Mo.cells]; omega), nth_cons_succ, ← ih]
    congr 2
    simp only [Mo.cells, List.length_cons, List.length_nil]
    omega
theorem Own.set7 {w : World} {base g c : Nat} {l : List Mo} (h : Own w base (.slice (some ⟨g, 0, none⟩) l.length c) l) {k : Nat} (hk : k < l.length) (m : Mo) :
    Own (((((((w.setCell ⟨g, k * 7, none⟩ (.int .i64 m.n)).setCell ⟨g, k * 7 + 1, none⟩ (.int .u8 m.e0)).setCell ⟨g, k * 7 + 2, none⟩ (.int .u8 m.e1)).setCell ⟨g, k * 7 + 3, none⟩ (.int .u8 m.e2)).setCell ⟨g, k * 7 + 4, none⟩ (.int .u8 m.e3)).setCell ⟨g, k * 7 + 5, none⟩ (.int .u8 m.e4)).setCell ⟨g, k * 7 + 6, none⟩ (.int .u8 m.e5)) base (.slice (some ⟨g, 0, none⟩) (l.set k m).length c) (l.set k m) := by
  unfold Own at *
  rw [List.length_set, ← flat_set7 m l k hk]
  exact ((((((h.stored _ _).1.stored _ _).1.stored _ _).1.stored _ _).1.stored _ _).1.stored _ _).1.stored _ _ |>.1
theorem Own.set1 {w : World} {base g c : Nat} {l : List Mo} (h : Own w base (.slice (some ⟨g, 0, none⟩) l.length c) l) {k : Nat} (hk : k < l.length) (n : Int) :
    Own (w.setCell ⟨g, k * 7, none⟩ (.int .i64 n)) base (.slice (some ⟨g, 0, none⟩) (l.set k { nth l k with n := n }).length c) (l.set k { nth l k with n := n }) := by
  unfold Own at *
  rw [List.length_set, ← flat_set1 n l k hk]
  exact (h.stored _ _).1
theorem flat_get : ∀ (l : List Mo) (k j : Nat), k < l.length → j < 7 → (l.flatMap Mo.cells)[k * 7 + j]? = some ((nth l k).cell j)
  | [], k, j, h, _ => by simp at h
  | a :: t, 0, j, _, hj => by
    match j, hj with
    | 0, _ => rfl
    | 1, _ => rfl
    | 2, _ => rfl
    | 3, _ => rfl
    | 4, _ => rfl
    | 5, _ => rfl
    | 6, _ => rfl
  | a :: t, k + 1, j, h, hj => by
    have ih := flat_get t k j (by simpa using h) hj
    rw [List.flatMap_cons, nth_cons_succ, ← ih, List.getElem?_append_right (by simp [Mo.cells]; omega)]
    congr 1
    simp only [Mo.cells, List.length_cons, List.length_nil]
    omega
theorem Own.form {w : World} {base : Nat} {v : Value} {l : List Mo} (h : Own w base v l) (hl : 0 < l.length) : ∃ g c, v = .slice (some ⟨g, 0, none⟩) l.length c ∧ base ≤ g ∧ g < w.heap.size := by
  obtain ⟨_, ⟨_, h0⟩ | ⟨g, cap, cur, rfl, hg, hh, _⟩⟩ := h
  · omega
  · refine ⟨g, cap, rfl, hg, ?_⟩
    rcases Nat.lt_or_ge g w.heap.size with h | h
    · exact h
    · rw [Array.getElem?_eq_none h] at hh; cases hh
theorem Own.shape {w : World} {base : Nat} {v : Value} {l : List Mo} (h : Own w base v l) : ∃ A c, v = .slice A l.length c := by
  obtain ⟨_, ⟨rfl, h0⟩ | ⟨g, cap, cur, rfl, _⟩⟩ := h
  · exact ⟨none, 0, by rw [h0]⟩
  · exact ⟨_, _, rfl⟩
theorem Own.cells7 {w : World} {base g c : Nat} {l : List Mo} (h : Own w base (.slice (some ⟨g, 0, none⟩) l.length c) l) {k : Nat} (hk : k < l.length) : Cells7 w g (k * 7) (nth l k) := by
  have e : ∀ j, j < 7 → w.cell? ⟨g, k * 7 + j, none⟩ = some ((nth l k).cell j) := fun j hj => (World.ownsRow.cellAt h _ (by omega)).trans (flat_get l k j hk hj)
  exact ⟨e 0 (by omega), e 1 (by omega), e 2 (by omega), e 3 (by omega), e 4 (by omega), e 5 (by omega), e 6 (by omega)⟩
theorem Own.rd {w : World} {base : Nat} {A : Option Addr} {n c : Nat} {l : List Mo} (h : Own w base (.slice A n c) l) (hw : ∀ m ∈ l, m.wf) : Rd w w.heap.size A l := by
  refine ⟨hw, fun hl => ?_⟩
  obtain ⟨g, c', e, hb, hg⟩ := h.form hl
  injection e with e1 e2 e3
  subst e1 e2 e3
  exact ⟨g, 0, rfl, hg, fun i j hi hj => by rw [Nat.zero_add]; exact (World.ownsRow.cellAt h _ (by omega)).trans (flat_get l i j hi hj)⟩
theorem Own.below {w w' : World} {base : Nat} {v : Value} {l : List Mo} (h : Own w base v l) (hb : Below w.heap.size w w') : Own w' base v l := by
  obtain ⟨h0, h1 | ⟨g, cap, cur, rfl, hg, hh, h2⟩⟩ := h
  · exact ⟨h0, .inl h1⟩
  · refine ⟨h0, .inr ⟨g, cap, cur, rfl, hg, ?_, h2⟩⟩
    rw [hb.block g ?_]
    · exact hh
    · rcases Nat.lt_or_ge g w.heap.size with h | h
      · exact h
      · rw [Array.getElem?_eq_none h] at hh; cases hh
theorem Own.base {w : World} {base base' : Nat} {v : Value} {l : List Mo} (h : Own w base v l) (hb : base' ≤ base) : Own w base' v l := by
  obtain ⟨h0, h1 | ⟨g, cap, cur, rfl, hg, h2⟩⟩ := h
  · exact ⟨h0, .inl h1⟩
  · exact ⟨h0, .inr ⟨g, cap, cur, rfl, Nat.le_trans hb hg, h2⟩⟩
end Go.Proofs.Ytogflbpphacokaa
