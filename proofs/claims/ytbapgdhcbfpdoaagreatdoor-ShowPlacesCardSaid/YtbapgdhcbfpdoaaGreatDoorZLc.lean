/- Layer 4, put together: LexE, LexF. -/
import Derived.Maps.AppendAt
import Derived.Laws.OwnMore
import Derived.Test.YtbapgdhcbfpdoaaGreatDoorZLa
import Derived.Deep.LoopGhost
import Derived.WalkMore
import Derived.Test.YtbapgdhcbfpdoaaGreatDoorZLb
/- Rows of tokens of one's own, and slices that read as tokens. -/
namespace Go.Proofs.YtbapgdhcbfpdoaaGreatDoor
open Go.RowKit

def Tk.cells (t : Tk) : List Value := [.int .i64 t.k, .int .i64 t.a, .string (bs t.w), .int .i64 t.n]
def Tk.cell (t : Tk) (j : Nat) : Value := if j = 0 then .int .i64 t.k else if j = 1 then .int .i64 t.a else if j = 2 then .string (bs t.w) else .int .i64 t.n
def nth (l : List Tk) (k : Nat) : Tk := l.getD k default
theorem nth_cons_succ (a : Tk) (l : List Tk) (k : Nat) : nth (a :: l) (k + 1) = nth l k := by simp [nth]
theorem nth_get {l : List Tk} {k : Nat} (h : k < l.length) : nth l k = l[k] := by unfold nth; rw [List.getD_eq_getElem?_getD, List.getElem?_eq_getElem h]; rfl
def Cells4 (w : World) (b o : Nat) (t : Tk) : Prop :=
  w.cell? ⟨b, o, none⟩ = some (.int .i64 t.k) ∧ w.cell? ⟨b, o + 1, none⟩ = some (.int .i64 t.a) ∧ w.cell? ⟨b, o + 2, none⟩ = some (.string (bs t.w)) ∧ w.cell? ⟨b, o + 3, none⟩ = some (.int .i64 t.n)
def Own (w : World) (base : Nat) (v : Value) (l : List Tk) : Prop := w.ownsRow base 56 4 v l.length (l.flatMap Tk.cells)
theorem Own.nil (w : World) (base : Nat) : Own w base (.slice none 0 0) [] := World.ownsRow_nil w base _ _
theorem flat_len (l : List Tk) : (l.flatMap Tk.cells).length = l.length * 4 := by
  induction l with
  | nil => rfl
  | cons a l ih => simp only [List.flatMap_cons, List.length_append, ih, List.length_cons]; simp [Tk.cells]; omega
theorem flat_get : ∀ (l : List Tk) (k j : Nat), k < l.length → j < 4 → (l.flatMap Tk.cells)[k * 4 + j]? = some ((nth l k).cell j)
  | [], k, j, h, _ => by simp at h
  | a :: t, 0, j, _, hj => by
    match j, hj with
    | 0, _ => rfl
    | 1, _ => rfl
    | 2, _ => rfl
    | 3, _ => rfl
  | a :: t, k + 1, j, h, hj => by
    have ih := flat_get t k j (by simpa using h) hj
    rw [List.flatMap_cons, nth_cons_succ, ← ih, List.getElem?_append_right (by simp [Tk.cells]; omega)]
    congr 1
    simp only [Tk.cells, List.length_cons, List.length_nil]
    omega
theorem oneCells (t : Tk) : ∀ u ∈ t.cells, u.oneCell' = true := by
  intro u hu; simp [Tk.cells] at hu; rcases hu with rfl | rfl | rfl | rfl <;> rfl
theorem cells_at {w : World} {b o : Nat} {t : Tk} (h : Cells4 w b o t) : ∀ (j : Nat) (u : Value), t.cells[j]? = some u → w.cell? ((⟨b, o, none⟩ : Addr).add j) = some u := by
  intro j u hj
  rw [WideShapes.add_plain]
  obtain ⟨h0, h1, h2, h3⟩ := h
  match j, hj with
  | 0, hj => simp [Tk.cells] at hj; subst hj; exact h0
  | 1, hj => simp [Tk.cells] at hj; subst hj; exact h1
  | 2, hj => simp [Tk.cells] at hj; subst hj; exact h2
  | 3, hj => simp [Tk.cells] at hj; subst hj; exact h3
  | j + 4, hj => simp [Tk.cells] at hj
theorem infoT : (Tryz.prog.info? 56).map (fun i => (i.zero, i.size, i.bytes)) = some (some (.agg #[.int .i64 0, .int .i64 0, .string ⟨#[]⟩, .int .i64 0]), 4, 40) := by kernel_rfl
theorem Own.snoc {w : World} {base : Nat} {v : Value} {l : List Tk} {m : Tk} (h : w.ownsRow base 56 4 v (l.length + 1) (l.flatMap Tk.cells ++ m.cells)) : Own w base v (l ++ [m]) := by
  unfold Own
  rw [List.length_append, List.flatMap_append, List.flatMap_cons, List.flatMap_nil, List.append_nil]
  exact h
theorem Own.form {w : World} {base : Nat} {v : Value} {l : List Tk} (h : Own w base v l) (hl : 0 < l.length) : ∃ g c, v = .slice (some ⟨g, 0, none⟩) l.length c ∧ base ≤ g ∧ g < w.heap.size := by
  obtain ⟨_, ⟨_, h0⟩ | ⟨g, cap, cur, rfl, hg, hh, _⟩⟩ := h
  · omega
  · refine ⟨g, cap, rfl, hg, ?_⟩
    rcases Nat.lt_or_ge g w.heap.size with h | h
    · exact h
    · rw [Array.getElem?_eq_none h] at hh; cases hh
theorem Own.shape {w : World} {base : Nat} {v : Value} {l : List Tk} (h : Own w base v l) : ∃ A c, v = .slice A l.length c := by
  obtain ⟨_, ⟨rfl, h0⟩ | ⟨g, cap, cur, rfl, _⟩⟩ := h
  · exact ⟨none, 0, by rw [h0]⟩
  · exact ⟨_, _, rfl⟩
theorem Own.below {w w' : World} {base : Nat} {v : Value} {l : List Tk} (h : Own w base v l) (hb : Below w.heap.size w w') : Own w' base v l := by
  obtain ⟨h0, h1 | ⟨g, cap, cur, rfl, hg, hh, h2⟩⟩ := h
  · exact ⟨h0, .inl h1⟩
  · refine ⟨h0, .inr ⟨g, cap, cur, rfl, hg, ?_, h2⟩⟩
    rw [hb.block g ?_]
    · exact hh
    · rcases Nat.lt_or_ge g w.heap.size with h | h
      · exact h
      · rw [Array.getElem?_eq_none h] at hh; cases hh
theorem Own.base {w : World} {base base' : Nat} {v : Value} {l : List Tk} (h : Own w base v l) (hb : base' ≤ base) : Own w base' v l := by
  obtain ⟨h0, h1 | ⟨g, cap, cur, rfl, hg, h2⟩⟩ := h
  · exact ⟨h0, .inl h1⟩
  · exact ⟨h0, .inr ⟨g, cap, cur, rfl, Nat.le_trans hb hg, h2⟩⟩
/-- The slice at A reads as the tokens l, below block B. -/
def Rd (w : World) (B : Nat) (A : Option Addr) (l : List Tk) : Prop :=
  0 < l.length → ∃ b o, A = some ⟨b, o, none⟩ ∧ b < B ∧ ∀ i, i < l.length → Cells4 w b (o + i * 4) (nth l i)
theorem Own.rd {w : World} {base : Nat} {A : Option Addr} {n c : Nat} {l : List Tk} (h : Own w base (.slice A n c) l) : Rd w w.heap.size A l := by
  intro hl
  obtain ⟨g, c', e, hb, hg⟩ := h.form hl
  injection e with e1 e2 e3
  subst e1 e2 e3
  have e : ∀ i j, i < l.length → j < 4 → w.cell? ⟨g, 0 + i * 4 + j, none⟩ = some ((nth l i).cell j) := fun i j hi hj => by
    rw [Nat.zero_add]; exact (World.ownsRow.cellAt h _ (by omega)).trans (flat_get l i j hi hj)
  exact ⟨g, 0, rfl, hg, fun i hi => ⟨e i 0 hi (by omega), e i 1 hi (by omega), e i 2 hi (by omega), e i 3 hi (by omega)⟩⟩
theorem Cells4.below {w w' : World} {n b o : Nat} {t : Tk} (h : Cells4 w b o t) (hb : Below n w w') (hn : b < n) : Cells4 w' b o t := by
  unfold Cells4 at *
  have e : ∀ o, w'.cell? ⟨b, o, none⟩ = w.cell? ⟨b, o, none⟩ := fun o => hb.cell (p := ⟨b, o, none⟩) hn
  simp only [e]
  exact h
theorem Rd.below {w w' : World} {A : Option Addr} {l : List Tk} (h : Rd w w.heap.size A l) (hb : Below w.heap.size w w') : Rd w' w'.heap.size A l := by
  intro hl
  obtain ⟨b, o, e, h1, h2⟩ := h hl
  exact ⟨b, o, e, Nat.lt_of_lt_of_le h1 hb.size, fun i hi => (h2 i hi).below hb h1⟩
theorem Rd.at_ {w : World} {B : Nat} {A : Option Addr} {l : List Tk} (h : Rd w B A l) (k : Nat) (hk : k < l.length) : ∃ b o, A = some ⟨b, o, none⟩ ∧ b < B ∧ ∀ i, i < l.length → Cells4 w b (o + i * 4) (nth l i) := h (by omega)
theorem Rd.nil (w : World) (B : Nat) (A : Option Addr) : Rd w B A [] := fun h => by simp at h
/-- Of a slice that reads as tokens: its first ones, and those from a place on. -/
theorem Rd.take {w : World} {B : Nat} {A : Option Addr} {l : List Tk} (h : Rd w B A l) (k : Nat) : Rd w B A (l.take k) := by
  intro hl
  rw [List.length_take] at hl
  obtain ⟨b, o, e, h1, h2⟩ := h (by omega)
  refine ⟨b, o, e, h1, fun i hi => ?_⟩
  rw [List.length_take] at hi
  have := h2 i (by omega)
  unfold nth at this ⊢
  rw [List.getD_eq_getElem?_getD] at this ⊢
  rw [List.getElem?_take_of_lt (by omega)]
  exact this
theorem Cells4.box (w : World) (t : Tk) : Cells4 (w.alloc (.cells #[.int .i64 t.k, .int .i64 t.a, .string (bs t.w), .int .i64 t.n] 56)) w.heap.size 0 t := by
  refine ⟨?_, ?_, ?_, ?_⟩ <;> (go_simp <;> rfl)
/-- What a call answers that answers tokens and a fault. -/
def TokRes (w : World) (x : Rs) (e : Ending) (w' : World) : Prop :=
  ∃ A c, e = .returned (.tuple #[.slice A x.toks.length c, .agg #[.int .i64 x.fa, .int .i64 x.fe]]) ∧ Own w' w.heap.size (.slice A x.toks.length c) x.toks ∧ Below w.heap.size w w'
theorem res_err {w w' : World} {x : Rs} {a e : Int} (hx : x = .err a e) (hb : Below w.heap.size w w') : TokRes w x (.returned (.tuple #[.slice none 0 0, .agg #[.int .i64 a, .int .i64 e]])) w' := by
  subst hx; exact ⟨none, 0, rfl, Own.nil _ _, hb⟩
theorem res_ok {w w' : World} {x : Rs} {ts : List Tk} {v : Value} {base : Nat} (hx : x = .ok ts) (ho : Own w' base v ts) (hb0 : w.heap.size ≤ base) (hb : Below w.heap.size w w') : TokRes w x (.returned (.tuple #[v, .agg #[.int .i64 0, .int .i64 0]])) w' := by
  subst hx
  obtain ⟨A, c, rfl⟩ := ho.shape
  exact ⟨A, c, rfl, ho.base hb0, hb⟩
end Go.Proofs.YtbapgdhcbfpdoaaGreatDoor
/- Contract of package lex: Lex. -/
namespace Go.Proofs.YtbapgdhcbfpdoaaGreatDoor
open Go.RowKit

/-- What the loop over the text holds. -/
def LexInv (B : Nat) (w0 : World) (l : List UInt8) (v : Value) (k : Nat) (us : List Tk) (wr : World) : Prop :=
  us.length ≤ k ∧ lexL l 0 = Rs.pre us (lexL (l.drop k) k) ∧ Own wr B v us ∧ Below B w0 wr ∧ B ≤ w0.heap.size
/-- What lies in the call's first two blocks. -/
def Base (n : Nat) (wr : World) : Prop :=
  (wr.cell? ⟨n, 0, none⟩ = some (.int .i64 0) ∧ wr.cell? ⟨n, 1, none⟩ = some (.int .i64 0) ∧ wr.frozen? ⟨n, 0, none⟩ = false ∧ wr.frozen? ⟨n, 1, none⟩ = false) ∧
  wr.cell? ⟨n + 1, 0, none⟩ = some (.func (.func 31) #[] #[]) ∧ wr.cell? ⟨n + 1, 1, none⟩ = some (.func (.func 32) #[] #[]) ∧ wr.cell? ⟨n + 1, 2, none⟩ = some (.func (.func 33) #[] #[]) ∧ wr.cell? ⟨n + 1, 3, none⟩ = some (.func (.func 34) #[] #[])
theorem Base.below {n : Nat} {w0 wr : World} {B : Nat} (h : Base n w0) (hb : Below B w0 wr) (hn : n + 1 < B) : Base n wr := by
  have e : ∀ b o, b < B → wr.cell? ⟨b, o, none⟩ = w0.cell? ⟨b, o, none⟩ := fun b o h => hb.cell (p := ⟨b, o, none⟩) h
  have f : ∀ b o, b < B → wr.frozen? ⟨b, o, none⟩ = w0.frozen? ⟨b, o, none⟩ := fun b o h => hb.frozen (p := ⟨b, o, none⟩) h
  obtain ⟨⟨h1, h2, h3, h4⟩, h5, h6, h7, h8⟩ := h
  refine ⟨⟨?_, ?_, ?_, ?_⟩, ?_, ?_, ?_, ?_⟩
  · rw [e _ _ (by omega)]; exact h1
  · rw [e _ _ (by omega)]; exact h2
  · rw [f _ _ (by omega)]; exact h3
  · rw [f _ _ (by omega)]; exact h4
  · rw [e _ _ (by omega)]; exact h5
  · rw [e _ _ (by omega)]; exact h6
  · rw [e _ _ (by omega)]; exact h7
  · rw [e _ _ (by omega)]; exact h8
theorem idle_at (b : UInt8) (r : List UInt8) (s : ByteArray) (w : World) (x : Int) (hx : ((idleR b r : Nat) : Int) = x) (hs : s.size ≤ 140737488355328) (hl : s.data.toList = b :: r) : Calls Tryz.prog 35 #[.string s] w fun e w' => e = .returned (.int .i64 x) ∧ w = w' := by
  subst hx; exact (idle_any b r s w hs hl).mono fun _ _ ⟨h1, h2⟩ => ⟨h1, h2.symm⟩
def AnsT (w : World) (t : Tk) (n e : Int) (x : Ending) (w' : World) : Prop := x = .returned (.tuple #[.agg #[.int .i64 t.k, .int .i64 t.a, .string (bs t.w), .int .i64 t.n], .int .i64 n, .int .i64 e]) ∧ Below w.heap.size w w'
theorem line_at (b : UInt8) (r : List UInt8) (s : ByteArray) (w : World) (t : Tk) (n e : Int) (hx : begR 0 b r = (t, n, e)) (hl : s.data.toList = b :: r) : Calls Tryz.prog 31 #[.string s] w (AnsT w t n e) := by
  have h := line_any b r s w  hl
  rw [show lineR b r = (t, n, e) from hx] at h
  exact h
theorem word_at (b : UInt8) (r : List UInt8) (s : ByteArray) (w : World) (t : Tk) (n e : Int) (hx : begR 1 b r = (t, n, e)) (hs : s.size ≤ 140737488355328) (hl : s.data.toList = b :: r) : Calls Tryz.prog 32 #[.string s] w (AnsT w t n e) := by
  have h := word_any b r s w hs hl
  rw [show wordR b r = (t, n, e) from hx] at h
  exact h
theorem number_at (b : UInt8) (r : List UInt8) (s : ByteArray) (w : World) (t : Tk) (n e : Int) (hx : begR 2 b r = (t, n, e)) (hL : Laid w) (hs : s.size ≤ 140737488355328) (hl : s.data.toList = b :: r) : Calls Tryz.prog 33 #[.string s] w (AnsT w t n e) := by
  have h := number_any b r s w hL hs hl
  rw [show numberR b r = (t, n, e) from hx] at h
  exact h
theorem sign_at (b : UInt8) (r : List UInt8) (s : ByteArray) (w : World) (t : Tk) (n e : Int) (hx : begR 3 b r = (t, n, e)) (hs : s.size ≤ 140737488355328) (hl : s.data.toList = b :: r) : Calls Tryz.prog 34 #[.string s] w (AnsT w t n e) := by
  have h := sign_any b r s w hs hl
  rw [show signR b r = (t, n, e) from hx] at h
  exact h

theorem lex_step {l : List UInt8} {k n : Nat} {us : List Tk} {b : UInt8} {r : List UInt8} {t : Tk} (hk : l.drop k = b :: r) (h : lexL l 0 = Rs.pre us (lexL (l.drop k) k)) (hn : lexL (b :: r) (k : Int) = Rs.pre [t] (lexL ((b :: r).drop n) (k + n))) : lexL l 0 = Rs.pre (us ++ [t]) (lexL (l.drop (k + n)) ((k + n : Nat) : Int)) := by
  rw [h, hk, hn, pre_pre, ← List.drop_drop, hk]; simp
theorem lex_skips {l : List UInt8} {k n : Nat} {us : List Tk} {b : UInt8} {r : List UInt8} (hk : l.drop k = b :: r) (h : lexL l 0 = Rs.pre us (lexL (l.drop k) k)) (hn : lexL (b :: r) (k : Int) = lexL ((b :: r).drop n) (k + n)) : lexL l 0 = Rs.pre us (lexL (l.drop (k + n)) ((k + n : Nat) : Int)) := by
  rw [h, hk, hn, ← List.drop_drop, hk]; simp
theorem lex_fault {l : List UInt8} {k : Nat} {us : List Tk} {b : UInt8} {r : List UInt8} {e : Int} (hk : l.drop k = b :: r) (h : lexL l 0 = Rs.pre us (lexL (l.drop k) k)) (hn : lexL (b :: r) (k : Int) = .err k e) : lexL l 0 = .err k e := by
  rw [h, hk, hn]; rfl
theorem NoneB.succ {j : Nat} {b : UInt8} {r : List UInt8} (h : NoneB j b r) {t : Tk} (hx : begR j b r = (t, 0, 0)) : NoneB (j + 1) b r := fun i hi => by
  rcases Nat.lt_or_ge i j with h1 | h1
  · exact h i h1
  · obtain rfl : i = j := by omega
    rw [hx]; exact ⟨rfl, rfl⟩
theorem bset2 {n : Nat} {w w' : World} (hb : Below n w w') {b : Nat} (h : n ≤ b) (v0 v1 : Value) : Below n w ((w'.setCell ⟨b, 0, none⟩ v0).setCell ⟨b, 1, none⟩ v1) :=
  (hb.setCell (p := ⟨b, 0, none⟩) h _).setCell (p := ⟨b, 1, none⟩) h _

theorem Own.set2 {w : World} {B n : Nat} {v : Value} {us : List Tk} (h : Own w B v us) (hn : n < B) (v0 v1 : Value) : Own ((w.setCell ⟨n, 0, none⟩ v0).setCell ⟨n, 1, none⟩ v1) B v us := by
  have hne : v.ownBlock ≠ some n := fun e => by have := (World.ownsRow.lt h n e).1; omega
  exact ownsRow_setCell_other (a := ⟨n, 1, none⟩) (ownsRow_setCell_other (a := ⟨n, 0, none⟩) h hne _) hne _
theorem chain2 {w W0 wr : World} (h1 : Below w.heap.size w W0) (h2 : Below W0.heap.size W0 wr) : Below w.heap.size w wr := h1.trans (h2.mono h1.size)
theorem Cells4.box2 (w : World) (o : Obj) (t : Tk) : Cells4 ((w.alloc o).alloc (.cells #[.int .i64 t.k, .int .i64 t.a, .string (bs t.w), .int .i64 t.n] 56)) (w.heap.size + 1) 0 t := by
  have h := Cells4.box (w.alloc o) t
  rwa [show (w.alloc o).heap.size = w.heap.size + 1 from by simp] at h
theorem lex_app {B : Nat} {w0 wr w' w1 : World} {l : List UInt8} {v v1 : Value} {k m : Nat} {us : List Tk} {t : Tk} {o1 o2 : Obj} (h1 : us.length ≤ k)
    (h2 : lexL l 0 = Rs.pre (us ++ [t]) (lexL (l.drop (k + m)) ((k + m : Nat) : Int))) (h3 : Own wr B v us) (h4 : Below B w0 wr) (h5 : B ≤ w0.heap.size) (hb1 : Below wr.heap.size wr w') (hm : 0 < m)
    (hown : w1.ownsRow B 56 4 v1 (us.length + 1) (us.flatMap Tk.cells ++ t.cells)) (hgr : ((w'.alloc o1).alloc o2).grownBy w1 v.ownBlock) : LexInv B w0 l v1 (k + m) (us ++ [t]) w1 := by
  have hB : B ≤ wr.heap.size := Nat.le_trans h5 h4.size
  have hB1 : B ≤ w'.heap.size := Nat.le_trans hB hb1.size
  refine ⟨by simp; omega, h2, Own.snoc hown, ?_, h5⟩
  exact (((h4.trans (hb1.mono hB)).alloc hB1 _).alloc (by simp; omega) _).grown hgr (by simp; omega) (fun j hj => (World.ownsRow.lt h3 j hj).1)

set_option maxHeartbeats 8000000 in
set_option maxRecDepth 100000 in
theorem lex_any (s : ByteArray) (w : World) (hL : Laid w) (hs : s.size ≤ 140737488355328) : Calls Tryz.prog 17 #[.string s] w (TokRes w (lexR s.data.toList)) := by
  obtain ⟨i0, hi, hz0, hz1, hz2⟩ := info_parts infoT
  have HI := Lib.hid (And.intro hi (And.intro hz0 (And.intro hz1 hz2)))
  clear hi hz0 hz1 hz2
  have hlen := len_s s
  by_cases hbig : 65536 < s.size
  · have hx := Lib.hid (show lexR s.data.toList = .err 0 30 by unfold lexR; rw [if_pos (by omega)])
    clear hlen
    go_enter Tryz.func17, Tryz.ntmps17
    go_wp2
    go_step3
    go_wp2
    exact bodyPost_ret (v := .tuple #[.slice none 0 0, .agg #[.int .i64 0, .int .i64 30]]) (by simp [results, Tryz.results17, go_sem]) rfl (res_err hx.out ((Below.refl _ _).alloc (Nat.le_refl _) _))
  · have hx := Lib.hid (show lexR s.data.toList = lexL s.data.toList 0 by unfold lexR; rw [if_neg (by omega)])
    have hsz : s.size ≤ 65536 := by omega
    have HZ := Lib.hid hlen
    clear hlen
    go_enter Tryz.func17, Tryz.ntmps17
    go_wp2
    go_step3
    go_wp2
    obtain ⟨W0, hW0⟩ : ∃ W, W = (w.alloc (.cells #[.int .i64 0, .int .i64 0] 41)).alloc (.cells #[.func (.func 31) #[] #[], .func (.func 32) #[] #[], .func (.func 33) #[] #[], .func (.func 34) #[] #[]] 77) := ⟨_, rfl⟩
    have HB0 := Lib.hid (show Base w.heap.size W0 by
      subst hW0
      refine ⟨⟨?_, ?_, ?_, ?_⟩, ?_, ?_, ?_, ?_⟩ <;> (go_simp <;> rfl))
    have HBL := Lib.hid (show Below w.heap.size w W0 by rw [hW0]; exact ((Below.refl _ _).alloc (Nat.le_refl _) _).alloc (by simp) _)
    have HS0 := Lib.hid (show W0.heap.size = w.heap.size + 2 by rw [hW0]; simp)
    rw [← hW0]
    clear hW0
    go_step3
    go_wp2
    go_loopg [6, 5] s.size (fun g s6 s5 wx => ∃ (k : Nat) (us : List Tk) (A : Option Addr) (c : Nat), k + g = s.size ∧ s6 = .int .i64 k ∧ s5 = .slice A us.length c ∧ Hid (LexInv W0.heap.size W0 s.data.toList (.slice A us.length c) k us wx))
    case atStart => exact ⟨0, [], none, 0, by omega, rfl, rfl, ⟨Nat.le_refl _, by rw [pre_nil]; rfl, Own.nil _ _, Below.refl _ _, Nat.le_refl _⟩⟩
    case round =>
      obtain ⟨k, us, A, c, hkg, rfl, rfl, HV⟩ := hrel
      have HBS := Lib.hid (HB0.out.below HV.out.2.2.2.1 (by have := HS0.out; omega))
      cases gk with
      | zero =>
        obtain rfl : k = s.size := by omega
        have hx2 := Lib.hid (show lexR s.data.toList = .ok us by
          rw [hx.out, HV.out.2.1, List.drop_of_length_le (by rw [HZ.out]; omega), lex_nil]; simp [Rs.pre])
        obtain ⟨h1, h2, h3, h4⟩ := HBS.out.1
        go_wp2
        try rw [Exit.noGoto_ret]
        exact bodyPost_ret (v := .tuple #[.slice A us.length c, .agg #[.int .i64 0, .int .i64 0]]) (by simp [results, Tryz.results17, go_sem, h1, h2]) rfl (res_ok hx2.out (HV.out.2.2.1.set2 (by have := HS0.out; omega) _ _) HBL.out.size (bset2 (chain2 HBL.out HV.out.2.2.2.1) (Nat.le_refl _) _ _))
      | succ g =>
        have hlt : k < s.size := by omega
        obtain ⟨b, r, hbr⟩ : ∃ b r, s.data.toList.drop k = b :: r := by
          cases h : s.data.toList.drop k with
          | nil => have := congrArg List.length h; rw [List.length_drop, HZ.out] at this; simp at this; omega
          | cons b r => exact ⟨b, r, rfl⟩
        have HD := Lib.hid hbr
        have HLR := Lib.hid (show k + (r.length + 1) = s.size by have := congrArg List.length hbr; rw [List.length_drop, HZ.out] at this; simp at this; omega)
        have HR := Lib.hid (show (s.extract k s.size).data.toList = b :: r by rw [ext_list, List.take_of_length_le (by rw [HZ.out]; omega)]; exact hbr)
        have hrz : (s.extract k s.size).size ≤ 140737488355328 := by rw [← len_s, HR.out]; have := HLR.out; simp; omega
        clear hbr
        by_cases hid : 0 < idleR b r
        · have hkm : k + idleR b r ≤ s.size := by have := idle_le b r; have := HLR.out; omega
          have HX := Lib.hid (lex_skips HD.out HV.out.2.1 (idle_lex b r k hid))
          go_wp2_with (first | (go_at_call 35; refine (idle_at b r _ _ _ rfl hrz HR.out).mono ?_; rintro e w' ⟨rfl, rfl⟩))
          go_roundg (s.size - (k + idleR b r))
          case measure => omega
          case rel => exact ⟨k + idleR b r, us, A, c, by omega, by go_num, rfl, ⟨by have := HV.out.1; omega, HX.out, HV.out.2.2⟩⟩
        · have HI0 := Lib.hid (show idleR b r = 0 by omega)
          have hi0 := Lib.hid (show ((idleR b r : Nat) : Int) = 0 by omega)
          clear hid
          go_wp2_with (first | (go_at_call 35; refine (idle_at b r _ _ 0 hi0.out hrz HR.out).mono ?_; rintro e w' ⟨rfl, rfl⟩))
          have HO0 := Lib.hid HV.out.2.2.1
          have HB1 := Lib.hid HV.out.2.2.2.1
          go_loopg [6, 5, 35] 4 (fun g s6 s5 i wx => ∃ j : Nat, j + g = 4 ∧ s6 = .int .i64 k ∧ s5 = .slice A us.length c ∧ i = .int .i64 j ∧ Hid (NoneB j b r ∧ Own wx W0.heap.size (.slice A us.length c) us ∧ Below W0.heap.size W0 wx))
          case atStart => exact ⟨0, by omega, rfl, rfl, rfl, fun i hi => by omega, HO0.out, HB1.out⟩
          case round =>
            obtain ⟨j, hjg, rfl, rfl, rfl, HN⟩ := hrel
            have HBS := Lib.hid (HB0.out.below HN.out.2.2 (by have := HS0.out; omega))
            have HLW := Lib.hid (hL.below (HBL.out.trans (HN.out.2.2.mono HBL.out.size)))
            cases gk with
            | zero =>
              obtain rfl : j = 4 := by omega
              have hx2 := Lib.hid (show lexR s.data.toList = .err k 31 by rw [hx.out]; exact lex_fault HD.out HV.out.2.1 (sel_all HI0.out HN.out.1 k))
              obtain ⟨h1, h2, h3, h4⟩ := HBS.out.1
              go_wp2
              try rw [Exit.noGoto_ret]
              exact bodyPost_ret (v := .tuple #[.slice none 0 0, .agg #[.int .i64 k, .int .i64 31]]) (by simp [results, Tryz.results17, go_sem, h1, h2]) rfl (res_err hx2.out (bset2 (chain2 HBL.out HN.out.2.2) (Nat.le_refl _) _ _))
            | succ g2 =>
              match j, hjg with
              | 0, hjg =>
                obtain ⟨t, n, e, hxe⟩ : ∃ t n e, begR 0 b r = (t, n, e) := ⟨_, _, _, rfl⟩
                have hsel := sel_at HI0.out (by omega) HN.out.1
                rw [hxe] at hsel
                have hfun : wr.cell? ⟨w.heap.size + 1, 0, none⟩ = some (.func (.func 31) #[] #[]) := HBS.out.2.1
                by_cases he : e = 0
                · by_cases hn : n = 0
                  · subst he hn
                    have hxj := Lib.hid hxe
                    have HN1 := Lib.hid (HN.out.1.succ hxe)
                    clear hxe hsel
                    go_wp2_with (first | (go_at_call 31; refine (line_at b r _ _ t 0 0 hxj.out HR.out).mono ?_; rintro e w' ⟨rfl, hb1⟩; obtain ⟨hc, hf⟩ := bcell hb1))
                    go_roundg g2
                    case measure => omega
                    case rel => exact ⟨1, by omega, rfl, rfl, by go_num, HN1.out, HN.out.2.1.below (hb1.alloc hb1.size _), HN.out.2.2.trans ((hb1.alloc hb1.size _).mono HN.out.2.2.size)⟩
                  · obtain ⟨m, hm, hm0, hml, hlex⟩ := hsel.2 he hn
                    have hm : n = m := hm
                    subst he hm
                    have hxj := Lib.hid hxe
                    have HX := Lib.hid (lex_step HD.out HV.out.2.1 (hlex k))
                    have hkm : k + m ≤ s.size := by have := HLR.out; omega
                    clear hxe hsel hlex hn
                    have hul := HV.out.1
                    have hbs := HN.out.2.2.size
                    go_wp2_with (first | (go_at_call 31; refine (line_at b r _ _ t m 0 hxj.out HR.out).mono ?_; rintro e w' ⟨rfl, hb1⟩; obtain ⟨hc, hf⟩ := bcell hb1) | (at_builtin; refine wpList_append_own _ rfl (.tmp 55) (.tmp 57) _ rfl W0.heap.size 56 i0 _ 4 40 Tryz.underlying52 HI.out.1 HI.out.2.1 HI.out.2.2.1 HI.out.2.2.2 rfl (by omega) (.slice A us.length c) us.length (us.flatMap Tk.cells) rfl (World.ownsRow.alloc (World.ownsRow.alloc (HN.out.2.1.below hb1) _) _) ⟨w'.heap.size + 1, 0, none⟩ 1 1 (Tk.cells { t with a := k }) rfl rfl (cells_at (Cells4.box2 w' _ { t with a := k })) (oneCells _) (by unfold maxLen; omega) (by omega) (by have := hb1.size; simp; omega) ?_; intro v1 w1 hown1 hgr1 _; obtain ⟨A1, c1, rfl⟩ := (Own.snoc hown1).shape))
                    go_roundg (s.size - (k + m))
                    case measure => omega
                    case rel => exact ⟨k + m, us ++ [{ t with a := k }], A1, c1, by omega, by go_num, by simp, lex_app HV.out.1 HX.out HN.out.2.1 HN.out.2.2 (Nat.le_refl _) hb1 hm0 hown1 hgr1⟩
                · have he' : (e != 0) = true := by simpa using he
                  have hxj := Lib.hid hxe
                  have hx2 := Lib.hid (show lexR s.data.toList = .err k e by rw [hx.out]; exact lex_fault HD.out HV.out.2.1 (hsel.1 he k))
                  obtain ⟨h1, h2, h3, h4⟩ := HBS.out.1
                  clear hxe hsel he
                  have hz : w.heap.size < wr.heap.size := by have := HBL.out.size; have := HN.out.2.2.size; have := HS0.out; omega
                  go_wp2_with (first | (go_at_call 31; refine (line_at b r _ _ t n e hxj.out HR.out).mono ?_; rintro e w' ⟨rfl, hb1⟩; obtain ⟨hc, hf⟩ := bcell hb1; have hz2 := Nat.lt_of_lt_of_le hz hb1.size))
                  try rw [Exit.noGoto_ret]
                  exact bodyPost_ret (v := .tuple #[.slice none 0 0, .agg #[.int .i64 k, .int .i64 e]]) (by simp [results, Tryz.results17, go_sem, h1, h2, hc, hz, hz2]) rfl (res_err hx2.out ((bset2 ((chain2 HBL.out HN.out.2.2).trans (hb1.mono (by omega))) (Nat.le_refl _) _ _).alloc (by simp; omega) _))
              | 1, hjg =>
                obtain ⟨t, n, e, hxe⟩ : ∃ t n e, begR 1 b r = (t, n, e) := ⟨_, _, _, rfl⟩
                have hsel := sel_at HI0.out (by omega) HN.out.1
                rw [hxe] at hsel
                have hfun : wr.cell? ⟨w.heap.size + 1, 1, none⟩ = some (.func (.func 32) #[] #[]) := HBS.out.2.2.1
                by_cases he : e = 0
                · by_cases hn : n = 0
                  · subst he hn
                    have hxj := Lib.hid hxe
                    have HN1 := Lib.hid (HN.out.1.succ hxe)
                    clear hxe hsel
                    go_wp2_with (first | (go_at_call 32; refine (word_at b r _ _ t 0 0 hxj.out hrz HR.out).mono ?_; rintro e w' ⟨rfl, hb1⟩; obtain ⟨hc, hf⟩ := bcell hb1))
                    go_roundg g2
                    case measure => omega
                    case rel => exact ⟨2, by omega, rfl, rfl, by go_num, HN1.out, HN.out.2.1.below (hb1.alloc hb1.size _), HN.out.2.2.trans ((hb1.alloc hb1.size _).mono HN.out.2.2.size)⟩
                  · obtain ⟨m, hm, hm0, hml, hlex⟩ := hsel.2 he hn
                    have hm : n = m := hm
                    subst he hm
                    have hxj := Lib.hid hxe
                    have HX := Lib.hid (lex_step HD.out HV.out.2.1 (hlex k))
                    have hkm : k + m ≤ s.size := by have := HLR.out; omega
                    clear hxe hsel hlex hn
                    have hul := HV.out.1
                    have hbs := HN.out.2.2.size
                    go_wp2_with (first | (go_at_call 32; refine (word_at b r _ _ t m 0 hxj.out hrz HR.out).mono ?_; rintro e w' ⟨rfl, hb1⟩; obtain ⟨hc, hf⟩ := bcell hb1) | (at_builtin; refine wpList_append_own _ rfl (.tmp 55) (.tmp 57) _ rfl W0.heap.size 56 i0 _ 4 40 Tryz.underlying52 HI.out.1 HI.out.2.1 HI.out.2.2.1 HI.out.2.2.2 rfl (by omega) (.slice A us.length c) us.length (us.flatMap Tk.cells) rfl (World.ownsRow.alloc (World.ownsRow.alloc (HN.out.2.1.below hb1) _) _) ⟨w'.heap.size + 1, 0, none⟩ 1 1 (Tk.cells { t with a := k }) rfl rfl (cells_at (Cells4.box2 w' _ { t with a := k })) (oneCells _) (by unfold maxLen; omega) (by omega) (by have := hb1.size; simp; omega) ?_; intro v1 w1 hown1 hgr1 _; obtain ⟨A1, c1, rfl⟩ := (Own.snoc hown1).shape))
                    go_roundg (s.size - (k + m))
                    case measure => omega
                    case rel => exact ⟨k + m, us ++ [{ t with a := k }], A1, c1, by omega, by go_num, by simp, lex_app HV.out.1 HX.out HN.out.2.1 HN.out.2.2 (Nat.le_refl _) hb1 hm0 hown1 hgr1⟩
                · have he' : (e != 0) = true := by simpa using he
                  have hxj := Lib.hid hxe
                  have hx2 := Lib.hid (show lexR s.data.toList = .err k e by rw [hx.out]; exact lex_fault HD.out HV.out.2.1 (hsel.1 he k))
                  obtain ⟨h1, h2, h3, h4⟩ := HBS.out.1
                  clear hxe hsel he
                  have hz : w.heap.size < wr.heap.size := by have := HBL.out.size; have := HN.out.2.2.size; have := HS0.out; omega
                  go_wp2_with (first | (go_at_call 32; refine (word_at b r _ _ t n e hxj.out hrz HR.out).mono ?_; rintro e w' ⟨rfl, hb1⟩; obtain ⟨hc, hf⟩ := bcell hb1; have hz2 := Nat.lt_of_lt_of_le hz hb1.size))
                  try rw [Exit.noGoto_ret]
                  exact bodyPost_ret (v := .tuple #[.slice none 0 0, .agg #[.int .i64 k, .int .i64 e]]) (by simp [results, Tryz.results17, go_sem, h1, h2, hc, hz, hz2]) rfl (res_err hx2.out ((bset2 ((chain2 HBL.out HN.out.2.2).trans (hb1.mono (by omega))) (Nat.le_refl _) _ _).alloc (by simp; omega) _))
              | 2, hjg =>
                obtain ⟨t, n, e, hxe⟩ : ∃ t n e, begR 2 b r = (t, n, e) := ⟨_, _, _, rfl⟩
                have hsel := sel_at HI0.out (by omega) HN.out.1
                rw [hxe] at hsel
                have hfun : wr.cell? ⟨w.heap.size + 1, 2, none⟩ = some (.func (.func 33) #[] #[]) := HBS.out.2.2.2.1
                by_cases he : e = 0
                · by_cases hn : n = 0
                  · subst he hn
                    have hxj := Lib.hid hxe
                    have HN1 := Lib.hid (HN.out.1.succ hxe)
                    clear hxe hsel
                    go_wp2_with (first | (go_at_call 33; refine (number_at b r _ _ t 0 0 hxj.out HLW.out hrz HR.out).mono ?_; rintro e w' ⟨rfl, hb1⟩; obtain ⟨hc, hf⟩ := bcell hb1))
                    go_roundg g2
                    case measure => omega
                    case rel => exact ⟨3, by omega, rfl, rfl, by go_num, HN1.out, HN.out.2.1.below (hb1.alloc hb1.size _), HN.out.2.2.trans ((hb1.alloc hb1.size _).mono HN.out.2.2.size)⟩
                  · obtain ⟨m, hm, hm0, hml, hlex⟩ := hsel.2 he hn
                    have hm : n = m := hm
                    subst he hm
                    have hxj := Lib.hid hxe
                    have HX := Lib.hid (lex_step HD.out HV.out.2.1 (hlex k))
                    have hkm : k + m ≤ s.size := by have := HLR.out; omega
                    clear hxe hsel hlex hn
                    have hul := HV.out.1
                    have hbs := HN.out.2.2.size
                    go_wp2_with (first | (go_at_call 33; refine (number_at b r _ _ t m 0 hxj.out HLW.out hrz HR.out).mono ?_; rintro e w' ⟨rfl, hb1⟩; obtain ⟨hc, hf⟩ := bcell hb1) | (at_builtin; refine wpList_append_own _ rfl (.tmp 55) (.tmp 57) _ rfl W0.heap.size 56 i0 _ 4 40 Tryz.underlying52 HI.out.1 HI.out.2.1 HI.out.2.2.1 HI.out.2.2.2 rfl (by omega) (.slice A us.length c) us.length (us.flatMap Tk.cells) rfl (World.ownsRow.alloc (World.ownsRow.alloc (HN.out.2.1.below hb1) _) _) ⟨w'.heap.size + 1, 0, none⟩ 1 1 (Tk.cells { t with a := k }) rfl rfl (cells_at (Cells4.box2 w' _ { t with a := k })) (oneCells _) (by unfold maxLen; omega) (by omega) (by have := hb1.size; simp; omega) ?_; intro v1 w1 hown1 hgr1 _; obtain ⟨A1, c1, rfl⟩ := (Own.snoc hown1).shape))
                    go_roundg (s.size - (k + m))
                    case measure => omega
                    case rel => exact ⟨k + m, us ++ [{ t with a := k }], A1, c1, by omega, by go_num, by simp, lex_app HV.out.1 HX.out HN.out.2.1 HN.out.2.2 (Nat.le_refl _) hb1 hm0 hown1 hgr1⟩
                · have he' : (e != 0) = true := by simpa using he
                  have hxj := Lib.hid hxe
                  have hx2 := Lib.hid (show lexR s.data.toList = .err k e by rw [hx.out]; exact lex_fault HD.out HV.out.2.1 (hsel.1 he k))
                  obtain ⟨h1, h2, h3, h4⟩ := HBS.out.1
                  clear hxe hsel he
                  have hz : w.heap.size < wr.heap.size := by have := HBL.out.size; have := HN.out.2.2.size; have := HS0.out; omega
                  go_wp2_with (first | (go_at_call 33; refine (number_at b r _ _ t n e hxj.out HLW.out hrz HR.out).mono ?_; rintro e w' ⟨rfl, hb1⟩; obtain ⟨hc, hf⟩ := bcell hb1; have hz2 := Nat.lt_of_lt_of_le hz hb1.size))
                  try rw [Exit.noGoto_ret]
                  exact bodyPost_ret (v := .tuple #[.slice none 0 0, .agg #[.int .i64 k, .int .i64 e]]) (by simp [results, Tryz.results17, go_sem, h1, h2, hc, hz, hz2]) rfl (res_err hx2.out ((bset2 ((chain2 HBL.out HN.out.2.2).trans (hb1.mono (by omega))) (Nat.le_refl _) _ _).alloc (by simp; omega) _))
              | 3, hjg =>
                obtain ⟨t, n, e, hxe⟩ : ∃ t n e, begR 3 b r = (t, n, e) := ⟨_, _, _, rfl⟩
                have hsel := sel_at HI0.out (by omega) HN.out.1
                rw [hxe] at hsel
                have hfun : wr.cell? ⟨w.heap.size + 1, 3, none⟩ = some (.func (.func 34) #[] #[]) := HBS.out.2.2.2.2
                by_cases he : e = 0
                · by_cases hn : n = 0
                  · subst he hn
                    have hxj := Lib.hid hxe
                    have HN1 := Lib.hid (HN.out.1.succ hxe)
                    clear hxe hsel
                    go_wp2_with (first | (go_at_call 34; refine (sign_at b r _ _ t 0 0 hxj.out hrz HR.out).mono ?_; rintro e w' ⟨rfl, hb1⟩; obtain ⟨hc, hf⟩ := bcell hb1))
                    go_roundg g2
                    case measure => omega
                    case rel => exact ⟨4, by omega, rfl, rfl, by go_num, HN1.out, HN.out.2.1.below (hb1.alloc hb1.size _), HN.out.2.2.trans ((hb1.alloc hb1.size _).mono HN.out.2.2.size)⟩
                  · obtain ⟨m, hm, hm0, hml, hlex⟩ := hsel.2 he hn
                    have hm : n = m := hm
                    subst he hm
                    have hxj := Lib.hid hxe
                    have HX := Lib.hid (lex_step HD.out HV.out.2.1 (hlex k))
                    have hkm : k + m ≤ s.size := by have := HLR.out; omega
                    clear hxe hsel hlex hn
                    have hul := HV.out.1
                    have hbs := HN.out.2.2.size
                    go_wp2_with (first | (go_at_call 34; refine (sign_at b r _ _ t m 0 hxj.out hrz HR.out).mono ?_; rintro e w' ⟨rfl, hb1⟩; obtain ⟨hc, hf⟩ := bcell hb1) | (at_builtin; refine wpList_append_own _ rfl (.tmp 55) (.tmp 57) _ rfl W0.heap.size 56 i0 _ 4 40 Tryz.underlying52 HI.out.1 HI.out.2.1 HI.out.2.2.1 HI.out.2.2.2 rfl (by omega) (.slice A us.length c) us.length (us.flatMap Tk.cells) rfl (World.ownsRow.alloc (World.ownsRow.alloc (HN.out.2.1.below hb1) _) _) ⟨w'.heap.size + 1, 0, none⟩ 1 1 (Tk.cells { t with a := k }) rfl rfl (cells_at (Cells4.box2 w' _ { t with a := k })) (oneCells _) (by unfold maxLen; omega) (by omega) (by have := hb1.size; simp; omega) ?_; intro v1 w1 hown1 hgr1 _; obtain ⟨A1, c1, rfl⟩ := (Own.snoc hown1).shape))
                    go_roundg (s.size - (k + m))
                    case measure => omega
                    case rel => exact ⟨k + m, us ++ [{ t with a := k }], A1, c1, by omega, by go_num, by simp, lex_app HV.out.1 HX.out HN.out.2.1 HN.out.2.2 (Nat.le_refl _) hb1 hm0 hown1 hgr1⟩
                · have he' : (e != 0) = true := by simpa using he
                  have hxj := Lib.hid hxe
                  have hx2 := Lib.hid (show lexR s.data.toList = .err k e by rw [hx.out]; exact lex_fault HD.out HV.out.2.1 (hsel.1 he k))
                  obtain ⟨h1, h2, h3, h4⟩ := HBS.out.1
                  clear hxe hsel he
                  have hz : w.heap.size < wr.heap.size := by have := HBL.out.size; have := HN.out.2.2.size; have := HS0.out; omega
                  go_wp2_with (first | (go_at_call 34; refine (sign_at b r _ _ t n e hxj.out hrz HR.out).mono ?_; rintro e w' ⟨rfl, hb1⟩; obtain ⟨hc, hf⟩ := bcell hb1; have hz2 := Nat.lt_of_lt_of_le hz hb1.size))
                  try rw [Exit.noGoto_ret]
                  exact bodyPost_ret (v := .tuple #[.slice none 0 0, .agg #[.int .i64 k, .int .i64 e]]) (by simp [results, Tryz.results17, go_sem, h1, h2, hc, hz, hz2]) rfl (res_err hx2.out ((bset2 ((chain2 HBL.out HN.out.2.2).trans (hb1.mono (by omega))) (Nat.le_refl _) _ _).alloc (by simp; omega) _))
              | j + 4, hjg => omega
end Go.Proofs.YtbapgdhcbfpdoaaGreatDoor
