/- Rows of tokens of one's own, and slices that read as tokens. -/
import Derived.Maps.AppendAt
import Derived.Laws.OwnMore
import Derived.Test.YtphcjpomneejmaaDoorLexB
namespace Go.Proofs.YtphcjpomneejmaaDoor
open Go.RowKit

def Tk.cells (t : Tk) : List Value := [.int .i64 t.k, .int .i64 t.a, .string (bs t.w), .int .i64 t.n]
def Tk.cell (t : Tk) (j : Nat) : Value := if j = 0 then .int .i64 t.k else if j = 1 then .int .i64 t.a else if j = 2 then .string (bs t.w) else .int .i64 t.n
def nth (l : List Tk) (k : Nat) : Tk := l.getD k default
theorem nth_cons_succ (a : Tk) (l : List Tk) (k : Nat) : nth (a :: l) (k + 1) = nth l k := by simp [nth]
theorem nth_get {l : List Tk} {k : Nat} (h : k < l.length) : nth l k = l[k] := by unfold nth; rw [List.getD_eq_getElem?_getD, List.getElem?_eq_getElem h]; rfl
def Cells4 (w : World) (b o : Nat) (t : Tk) : Prop :=
  w.cell? ⟨b, o, none⟩ = some (.int .i64 t.k) ∧ w.cell? ⟨b, o + 1, none⟩ = some (.int .i64 t.a) ∧ w.cell? ⟨b, o + 2, none⟩ = some (.string (bs t.w)) ∧ w.cell? ⟨b, o + 3, none⟩ = some (.int .i64 t.n)
def Own (w : World) (base : Nat) (v : Value) (l : List Tk) : Prop := w.ownsRow base 32 4 v l.length (l.flatMap Tk.cells)
theorem Own.nil (w : World) (base : Nat) : Own w base (.slice none 0 0) [] := World.ownsRow_nil w base _ _
theorem flat_len (l : List Tk) : (l.flatMap Tk.cells).length = l.length * 4 := by
  induction l with
  | nil => rfl
  | cons a l ih => simp only [List.flatMap_cons, List.length_append, ih, List.length_cons]; simp [Tk.cells]; omega
theorem flat_get : ∀ (l : List Tk) (k j : Nat), k < l.length → j < 4 → (l.flatMap Tk.cells)[k * 4 + j]? = some ((nth l k).cell j)
  | [], k, j, h, _ => by simp at h
  | a :: t, 0, j, _, hj => by
    match j, hj with
    | 0, _ => rfl
    | 1, _ => rfl
    | 2, _ => rfl
    | 3, _ => rfl
  | a :: t, k + 1, j, h, hj => by
    have ih := flat_get t k j (by simpa using h) hj
    rw [List.flatMap_cons, nth_cons_succ, ← ih, List.getElem?_append_right (by simp [Tk.cells]; omega)]
    congr 1
    simp only [Tk.cells, List.length_cons, List.length_nil]
    omega
theorem oneCells (t : Tk) : ∀ u ∈ t.cells, u.oneCell' = true := by
  intro u hu; simp [Tk.cells] at hu; rcases hu with rfl | rfl | rfl | rfl <;> rfl
theorem cells_at {w : World} {b o : Nat} {t : Tk} (h : Cells4 w b o t) : ∀ (j : Nat) (u : Value), t.cells[j]? = some u → w.cell? ((⟨b, o, none⟩ : Addr).add j) = some u := by
  intro j u hj
  rw [WideShapes.add_plain]
  obtain ⟨h0, h1, h2, h3⟩ := h
  match j, hj with
  | 0, hj => simp [Tk.cells] at hj; subst hj; exact h0
  | 1, hj => simp [Tk.cells] at hj; subst hj; exact h1
  | 2, hj => simp [Tk.cells] at hj; subst hj; exact h2
  | 3, hj => simp [Tk.cells] at hj; subst hj; exact h3
  | j + 4, hj => simp [Tk.cells] at hj
theorem infoT : (Tryd.prog.info? 32).map (fun i => (i.zero, i.size, i.bytes)) = some (some (.agg #[.int .i64 0, .int .i64 0, .string ⟨#[]⟩, .int .i64 0]), 4, 40) := by kernel_rfl
theorem Own.snoc {w : World} {base : Nat} {v : Value} {l : List Tk} {m : Tk} (h : w.ownsRow base 32 4 v (l.length + 1) (l.flatMap Tk.cells ++ m.cells)) : Own w base v (l ++ [m]) := by
  unfold Own
  rw [List.length_append, List.flatMap_append, List.flatMap_cons, List.flatMap_nil, List.append_nil]
  exact h
theorem Own.form {w : World} {base : Nat} {v : Value} {l : List Tk} (h : Own w base v l) (hl : 0 < l.length) : ∃ g c, v = .slice (some ⟨g, 0, none⟩) l.length c ∧ base ≤ g ∧ g < w.heap.size := by
  obtain ⟨_, ⟨_, h0⟩ | ⟨g, cap, cur, rfl, hg, hh, _⟩⟩ := h
  · omega
  · refine ⟨g, cap, rfl, hg, ?_⟩
    rcases Nat.lt_or_ge g w.heap.size with h | h
    · exact h
    · rw [Array.getElem?_eq_none h] at hh; cases hh
theorem Own.shape {w : World} {base : Nat} {v : Value} {l : List Tk} (h : Own w base v l) : ∃ A c, v = .slice A l.length c := by
  obtain ⟨_, ⟨rfl, h0⟩ | ⟨g, cap, cur, rfl, _⟩⟩ := h
  · exact ⟨none, 0, by rw [h0]⟩
  · exact ⟨_, _, rfl⟩
theorem Own.below {w w' : World} {base : Nat} {v : Value} {l : List Tk} (h : Own w base v l) (hb : Below w.heap.size w w') : Own w' base v l := by
  obtain ⟨h0, h1 | ⟨g, cap, cur, rfl, hg, hh, h2⟩⟩ := h
  · exact ⟨h0, .inl h1⟩
  · refine ⟨h0, .inr ⟨g, cap, cur, rfl, hg, ?_, h2⟩⟩
    rw [hb.block g ?_]
    · exact hh
    · rcases Nat.lt_or_ge g w.heap.size with h | h
      · exact h
      · rw [Array.getElem?_eq_none h] at hh; cases hh
theorem Own.base {w : World} {base base' : Nat} {v : Value} {l : List Tk} (h : Own w base v l) (hb : base' ≤ base) : Own w base' v l := by
  obtain ⟨h0, h1 | ⟨g, cap, cur, rfl, hg, h2⟩⟩ := h
  · exact ⟨h0, .inl h1⟩
  · exact ⟨h0, .inr ⟨g, cap, cur, rfl, Nat.le_trans hb hg, h2⟩⟩
/-- The slice at A reads as the tokens l, below block B. -/
def Rd (w : World) (B : Nat) (A : Option Addr) (l : List Tk) : Prop :=
  0 < l.length → ∃ b o, A = some ⟨b, o, none⟩ ∧ b < B ∧ ∀ i, i < l.length → Cells4 w b (o + i * 4) (nth l i)
theorem Own.rd {w : World} {base : Nat} {A : Option Addr} {n c : Nat} {l : List Tk} (h : Own w base (.slice A n c) l) : Rd w w.heap.size A l := by
  intro hl
  obtain ⟨g, c', e, hb, hg⟩ := h.form hl
  injection e with e1 e2 e3
  subst e1 e2 e3
  have e : ∀ i j, i < l.length → j < 4 → w.cell? ⟨g, 0 + i * 4 + j, none⟩ = some ((nth l i).cell j) := fun i j hi hj => by
    rw [Nat.zero_add]; exact (World.ownsRow.cellAt h _ (by omega)).trans (flat_get l i j hi hj)
  exact ⟨g, 0, rfl, hg, fun i hi => ⟨e i 0 hi (by omega), e i 1 hi (by omega), e i 2 hi (by omega), e i 3 hi (by omega)⟩⟩
theorem Cells4.below {w w' : World} {n b o : Nat} {t : Tk} (h : Cells4 w b o t) (hb : Below n w w') (hn : b < n) : Cells4 w' b o t := by
  unfold Cells4 at *
  have e : ∀ o, w'.cell? ⟨b, o, none⟩ = w.cell? ⟨b, o, none⟩ := fun o => hb.cell (p := ⟨b, o, none⟩) hn
  simp only [e]
  exact h
theorem Rd.below {w w' : World} {A : Option Addr} {l : List Tk} (h : Rd w w.heap.size A l) (hb : Below w.heap.size w w') : Rd w' w'.heap.size A l := by
  intro hl
  obtain ⟨b, o, e, h1, h2⟩ := h hl
  exact ⟨b, o, e, Nat.lt_of_lt_of_le h1 hb.size, fun i hi => (h2 i hi).below hb h1⟩
theorem Rd.at_ {w : World} {B : Nat} {A : Option Addr} {l : List Tk} (h : Rd w B A l) (k : Nat) (hk : k < l.length) : ∃ b o, A = some ⟨b, o, none⟩ ∧ b < B ∧ ∀ i, i < l.length → Cells4 w b (o + i * 4) (nth l i) := h (by omega)
theorem Rd.nil (w : World) (B : Nat) (A : Option Addr) : Rd w B A [] := fun h => by simp at h
/-- Of a slice that reads as tokens: its first ones, and those from a place on. -/
theorem Rd.take {w : World} {B : Nat} {A : Option Addr} {l : List Tk} (h : Rd w B A l) (k : Nat) : Rd w B A (l.take k) := by
  intro hl
  rw [List.length_take] at hl
  obtain ⟨b, o, e, h1, h2⟩ := h (by omega)
  refine ⟨b, o, e, h1, fun i hi => ?_⟩
  rw [List.length_take] at hi
  have := h2 i (by omega)
  unfold nth at this ⊢
  rw [List.getD_eq_getElem?_getD] at this ⊢
  rw [List.getElem?_take_of_lt (by omega)]
  exact this
theorem Cells4.box (w : World) (t : Tk) : Cells4 (w.alloc (.cells #[.int .i64 t.k, .int .i64 t.a, .string (bs t.w), .int .i64 t.n] 32)) w.heap.size 0 t := by
  refine ⟨?_, ?_, ?_, ?_⟩ <;> (go_simp <;> rfl)
/-- What a call answers that answers tokens and a fault. -/
def TokRes (w : World) (x : Rs) (e : Ending) (w' : World) : Prop :=
  ∃ A c, e = .returned (.tuple #[.slice A x.toks.length c, .agg #[.int .i64 x.fa, .int .i64 x.fe]]) ∧ Own w' w.heap.size (.slice A x.toks.length c) x.toks ∧ Below w.heap.size w w'
theorem res_err {w w' : World} {x : Rs} {a e : Int} (hx : x = .err a e) (hb : Below w.heap.size w w') : TokRes w x (.returned (.tuple #[.slice none 0 0, .agg #[.int .i64 a, .int .i64 e]])) w' := by
  subst hx; exact ⟨none, 0, rfl, Own.nil _ _, hb⟩
theorem res_ok {w w' : World} {x : Rs} {ts : List Tk} {v : Value} {base : Nat} (hx : x = .ok ts) (ho : Own w' base v ts) (hb0 : w.heap.size ≤ base) (hb : Below w.heap.size w w') : TokRes w x (.returned (.tuple #[v, .agg #[.int .i64 0, .int .i64 0]])) w' := by
  subst hx
  obtain ⟨A, c, rfl⟩ := ho.shape
  exact ⟨A, c, rfl, ho.base hb0, hb⟩
end Go.Proofs.YtphcjpomneejmaaDoor
