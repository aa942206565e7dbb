/- Rows of what is read of expressions, and the text of all. -/
import Derived.Lib.AppendStr
import Derived.Test.YthdognmppbckbaaDoorZPi
namespace Go.Proofs.YthdognmppbckbaaDoor
open Go.RowKit
structure WE where
  e : List UInt8
  its : List It
  A : Option Addr
  c : Nat
deriving Inhabited
def WE.cell (x : WE) : Value := .slice x.A x.its.length x.c
def WE.pr (x : WE) : List UInt8 × List It := (x.e, x.its)
structure WOk (w : World) (x : WE) : Prop where
  rd : RdIt w x.A x.its
  len : x.e.length ≤ 1000
  ok : ∃ E, OutOk x.e x.its E
  n : x.its.length ≤ 120
  sm : ∀ y ∈ x.its, Sm 1000000 y
structure LI (w : World) (B : Nat) (Ws : List WE) (bl : List UInt8) (A : Option Addr) (n c : Nat) (A4 : Option Addr) (m c4 : Nat) : Prop where
  own : w.ownsRow B 39 1 (.slice A n c) n (Ws.map WE.cell)
  hn : Ws.length = n
  byt : w.ownsRow B 5 1 (.slice A4 m c4) m (bcells bl)
  hm : bl.length = m
  ws : ∀ x ∈ Ws, WOk w x
theorem LI.nil (w : World) (B : Nat) : LI w B [] [] none 0 0 none 0 0 := ⟨World.ownsRow_nil w B _ _, rfl, World.ownsRow_nil w B _ _, rfl, fun x hx => by cases hx⟩
theorem WOk.keep {w w' : World} {x : WE} (h : WOk w x) (hb : Below w.heap.size w w') : WOk w' x := ⟨rdIt_below h.rd hb, h.len, h.ok, h.n, h.sm⟩
theorem LI.keep {w w' : World} {B : Nat} {Ws : List WE} {bl : List UInt8} {A A4 : Option Addr} {n c m c4 : Nat} (h : LI w B Ws bl A n c A4 m c4) (hb : Below w.heap.size w w') : LI w' B Ws bl A n c A4 m c4 :=
  ⟨row_keep h.own (fun k _ hk => hb.block k hk) (Nat.le_refl _), h.hn, row_keep h.byt (fun k _ hk => hb.block k hk) (Nat.le_refl _), h.hm, fun x hx => (h.ws x hx).keep hb⟩
theorem str_cellsP (s : ByteArray) : Lib.strCells s = bcells s.data.toList := rfl
theorem infoW : (Tryd.prog.info? 39).map (fun i => (i.zero, i.size, i.bytes)) = some (some (.slice none 0 0), 1, 24) := by kernel_rfl
theorem wok_far {w w' : World} {B s n : Nat} {e : TypeId} {v : Value} {xs : List Value} (own : w.ownsRow B e s v n xs) (hgr : w.grownBy w' v.ownBlock) (h1 : e ≠ 52) (h2 : e ≠ 2) {x : WE} (h : WOk w x) : WOk w' x := by
  refine ⟨RdI.grow h.rd hgr.size fun b cs T fr hb hT => hgr.block b (heap_lt hb) fun e' => ?_, h.len, h.ok, h.n, h.sm⟩
  rcases own.2 with ⟨rfl, _⟩ | ⟨g, cap, cur, rfl, _, hh, _⟩
  · cases e'
  · simp [Value.ownBlock] at e'
    subst e'
    rw [hb] at hh
    simp at hh
    rcases hT with hT | hT
    · exact h1 (hh.2.1.symm.trans hT)
    · exact h2 (hh.2.1.symm.trans hT)
/-- What is read of one more expression is put behind. -/
theorem append_want {w : World} {ops : Array Oper} {rest : List Oper} {o : Oper} {a : Act} {Q : Exit → Act → World → Prop} (hgd : o.guard = none) (sl x : Operand)
    (ho : o.op = .call { callee := .builtin .append, args := #[sl, x], argTypes := #[55, 55] }) (B : Nat) (Ws : List WE) (bl : List UInt8) (A : Option Addr) (n c : Nat) (A4 : Option Addr) (m c4 : Nat)
    (hs : a.eval sl = .slice A n c) (h : LI w B Ws bl A n c A4 m c4) (q c1 : Nat) (hx : a.eval x = .slice (some ⟨q, 0, none⟩) 1 c1) (e : WE) (he : WOk w e) (hc : ∀ (j : Nat) (u : Value), [e.cell][j]? = some u → w.cell? ((⟨q, 0, none⟩ : Addr).add j) = some u) (hn : n ≤ 1000) (hb : B ≤ w.heap.size)
    (hK : ∀ A' c' w', LI w' B (Ws ++ [e]) bl A' (n + 1) c' A4 m c4 → (∀ w0, Below B w0 w → Below B w0 w') → wpList Tryd.prog ops Q rest (a.put o.dst (.slice A' (n + 1) c')) w') :
    wpList Tryd.prog ops Q (o :: rest) a w := by
  obtain ⟨i1, hi, hz0, hz1, hz2⟩ := info_parts infoW
  refine wpList_append_lies w hgd sl x _ ho B 39 i1 _ 1 24 Tryd.underlying55 hi hz0 hz1 hz2 rfl (by omega) _ n (Ws.map WE.cell) hs h.own ⟨q, 0, none⟩ 1 c1 [e.cell] hx rfl hc (fun u hu => by simp at hu; subst hu; rfl) (by omega) (by unfold maxLen; omega) (by omega) hb w.heap.size rfl ?_
  intro g cap w' hown hgr _ _
  refine hK (some ⟨g, 0, none⟩) cap w' ⟨?_, by simp [h.hn], row_keep h.byt (fun k hk hl => hgr.block k hl (fun e' => rows_ne h.byt h.own (by decide) hk e'.symm)) (Nat.le_refl _), h.hm, ?_⟩ (fun w0 h0 => h0.grown hgr hb (fun k hk => (row_base h.own hk).1))
  · rw [List.map_append]; exact hown
  · intro y hy
    refine wok_far h.own hgr (by decide) (by decide) ?_
    rcases List.mem_append.1 hy with hy | hy
    · exact h.ws y hy
    · simp at hy; subst hy; exact he
theorem LI.bytes {w w' : World} {B : Nat} {Ws : List WE} {bl bl' : List UInt8} {A A4 A4' : Option Addr} {n c m c4 m' c4' : Nat} (h : LI w B Ws bl A n c A4 m c4) (hown : w'.ownsRow B 5 1 (.slice A4' m' c4') m' (bcells bl')) (hm : bl'.length = m') (hgr : w.grownBy w' (Value.slice A4 m c4).ownBlock) : LI w' B Ws bl' A n c A4' m' c4' :=
  ⟨row_keep h.own (fun k hk hl => hgr.block k hl (fun e' => rows_ne h.own h.byt (by decide) hk e'.symm)) (Nat.le_refl _), h.hn, hown, hm, fun _ hx => wok_far h.byt hgr (by decide) (by decide) (h.ws _ hx)⟩
/-- A string's bytes are put behind. -/
theorem append_strL {w : World} {ops : Array Oper} {rest : List Oper} {o : Oper} {a : Act} {Q : Exit → Act → World → Prop} (hgd : o.guard = none) (sl x : Operand)
    (ho : o.op = .call { callee := .builtin .append, args := #[sl, x], argTypes := #[45, 9] }) (B : Nat) (Ws : List WE) (bl : List UInt8) (A : Option Addr) (n c : Nat) (A4 : Option Addr) (m c4 : Nat)
    (hs : a.eval sl = .slice A4 m c4) (h : LI w B Ws bl A n c A4 m c4) (s : ByteArray) (hx : a.eval x = .string s) (hn : m + s.size ≤ 1000000) (hb : B ≤ w.heap.size)
    (hK : ∀ A' c' w', LI w' B Ws (bl ++ s.data.toList) A n c A' (m + s.size) c' → (∀ w0, Below B w0 w → Below B w0 w') → wpList Tryd.prog ops Q rest (a.put o.dst (.slice A' (m + s.size) c')) w') :
    wpList Tryd.prog ops Q (o :: rest) a w := by
  obtain ⟨i1, hi, hz0, hz1, hz2⟩ := info_parts infoB
  refine Lib.wpList_append_own_string w hgd sl x _ _ ho B 5 i1 Tryd.underlying45 Tryd.underlying9 hi hz0 hz1 hz2 _ m (bcells bl) hs h.byt s hx (by unfold maxLen; omega) (by omega) hb ?_
  intro v' w' hown hgr _
  obtain ⟨A', c', rfl, _⟩ := row_shape hown
  refine hK A' c' w' (h.bytes ?_ (by rw [List.length_append, h.hm, len_s]) hgr) (fun w0 h0 => h0.grown hgr hb (fun k hk => (row_base h.byt hk).1))
  rw [str_cellsP] at hown
  have e : bcells (bl ++ s.data.toList) = bcells bl ++ bcells s.data.toList := by unfold bcells; rw [List.map_append]
  rw [e]; exact hown
/-- A byte is put behind. -/
theorem append_byteL {w : World} {ops : Array Oper} {rest : List Oper} {o : Oper} {a : Act} {Q : Exit → Act → World → Prop} (hgd : o.guard = none) (sl x : Operand)
    (ho : o.op = .call { callee := .builtin .append, args := #[sl, x], argTypes := #[45, 45] }) (B : Nat) (Ws : List WE) (bl : List UInt8) (A : Option Addr) (n c : Nat) (A4 : Option Addr) (m c4 : Nat)
    (hs : a.eval sl = .slice A4 m c4) (h : LI w B Ws bl A n c A4 m c4) (b : UInt8) (q c1 : Nat) (hx : a.eval x = .slice (some ⟨q, 0, none⟩) 1 c1) (hc : ∀ (j : Nat) (u : Value), (bcells [b])[j]? = some u → w.cell? ((⟨q, 0, none⟩ : Addr).add j) = some u) (hn : m ≤ 1000000) (hb : B ≤ w.heap.size)
    (hK : ∀ A' c' w', LI w' B Ws (bl ++ [b]) A n c A' (m + 1) c' → (∀ w0, Below B w0 w → Below B w0 w') → wpList Tryd.prog ops Q rest (a.put o.dst (.slice A' (m + 1) c')) w') :
    wpList Tryd.prog ops Q (o :: rest) a w := by
  obtain ⟨i1, hi, hz0, hz1, hz2⟩ := info_parts infoB
  refine wpList_append_lies w hgd sl x _ ho B 5 i1 _ 1 1 Tryd.underlying45 hi hz0 hz1 hz2 rfl (by omega) _ m (bcells bl) hs h.byt ⟨q, 0, none⟩ 1 c1 (bcells [b]) hx rfl hc (bone [b]) (by omega) (by unfold maxLen; omega) (by omega) hb w.heap.size rfl ?_
  intro g cap w' hown hgr _ _
  refine hK (some ⟨g, 0, none⟩) cap w' (h.bytes ?_ (by simp [h.hm]) hgr) (fun w0 h0 => h0.grown hgr hb (fun k hk => (row_base h.byt hk).1))
  have e : bcells (bl ++ [b]) = bcells bl ++ bcells [b] := by unfold bcells; rw [List.map_append]
  rw [e]; exact hown
theorem LI.text {w : World} {B : Nat} {Ws : List WE} {bl : List UInt8} {A A4 : Option Addr} {n c m c4 : Nat} (h : LI w B Ws bl A n c A4 m c4) : (convert 45 9 (.slice A4 m c4)).run Tryd.prog w = .ok (.string (bs bl)) w := by
  have h1 := h.byt
  have h2 := h.hm
  subst h2
  exact OwnB.text h1
theorem LI.row {w : World} {B : Nat} {Ws : List WE} {bl : List UInt8} {A A4 : Option Addr} {n c m c4 : Nat} (h : LI w B Ws bl A n c A4 m c4) (hn : 0 < n) : ∃ g, A = some ⟨g, 0, none⟩ ∧ g < w.heap.size ∧ ∀ j, j < n → w.cell? ⟨g, j, none⟩ = some (Ws.getD j default).cell := by
  obtain ⟨g, cap, e, _, hg⟩ := h.own.form hn
  injection e with e1 e2 e3
  subst e1
  refine ⟨g, rfl, hg, fun j hj => ?_⟩
  have hl : j < Ws.length := by rw [h.hn]; exact hj
  have hx := World.ownsRow.cells h.own (g := g) rfl j (Ws.getD j default).cell (by rw [List.getElem?_map, List.getElem?_eq_getElem hl, List.getD_eq_getElem?_getD, List.getElem?_eq_getElem hl]; rfl)
  rw [WideShapes.add_plain, Nat.zero_add] at hx
  exact hx
theorem textOf_le : ∀ Ws : List WE, (∀ x ∈ Ws, x.e.length ≤ 1000) → (textOf (Ws.map WE.pr)).length ≤ Ws.length * 1005
  | [], _ => by simp [textOf]
  | x :: Ws, h => by
    have h1 := textOf_le Ws fun y hy => h y (by simp [hy])
    have h2 := h x (by simp)
    rw [List.map_cons, show textOf (x.pr :: Ws.map WE.pr) = lineT x.e ++ textOf (Ws.map WE.pr) from List.flatMap_cons, List.length_append]
    have h3 : (lineT x.e).length = x.e.length + 5 := by simp [lineT]
    simp only [List.length_cons]
    omega
theorem textOf_snoc (Ws : List WE) (x : WE) : textOf ((Ws ++ [x]).map WE.pr) = textOf (Ws.map WE.pr) ++ [97, 32, 58, 32] ++ x.e ++ [10] := by
  rw [List.map_append]
  unfold textOf
  rw [List.flatMap_append]
  simp [lineT, WE.pr]
theorem LI.small {w : World} {B : Nat} {Ws : List WE} {A A4 : Option Addr} {n c m c4 : Nat} (h : LI w B Ws (textOf (Ws.map WE.pr)) A n c A4 m c4) (hn : n ≤ 60) : m ≤ 60300 := by
  have h1 := textOf_le Ws fun x hx => (h.ws x hx).len
  rw [h.hm, h.hn] at h1
  omega
/-- What is read of the text of all. -/
theorem LI.lines {w : World} {B : Nat} {Ws : List WE} {A A4 : Option Addr} {n c m c4 : Nat} (h : LI w B Ws (textOf (Ws.map WE.pr)) A n c A4 m c4) (hn : n ≤ 60) :
    (∃ x, parseR (textOf (Ws.map WE.pr) ++ outA) = .err x 45) ∨ ∃ q, parseR (textOf (Ws.map WE.pr) ++ outA) = .ok q ∧ q.lns.length = n + 1 ∧ ∀ i, i < n → (q.lns.getD i default).nm = [97] ∧ (q.lns.getD i default).its.map zI = (Ws.getD i default).its.map zI := by
  have hl := lines_all (Ls := Ws.map WE.pr) (by rw [List.length_map, h.hn]; exact hn) (fun x hx => by
    obtain ⟨y, hy, rfl⟩ := List.mem_map.1 hx
    exact ⟨(h.ws y hy).len, (h.ws y hy).ok⟩)
  rw [List.length_map, h.hn] at hl
  rcases hl with hl | ⟨q, h1, h2, h3⟩
  · exact .inl hl
  · refine .inr ⟨q, h1, h2, fun i hi => ?_⟩
    have hil : i < Ws.length := by rw [h.hn]; exact hi
    have h4 := h3 i hi
    refine ⟨h4.1, h4.2.trans ?_⟩
    rw [List.getD_eq_getElem?_getD, List.getElem?_map, List.getElem?_eq_getElem hil, List.getD_eq_getElem?_getD, List.getElem?_eq_getElem hil]; rfl
def StrAt (w : World) (A : Option Addr) (L : Nat) (S : Nat → ByteArray) : Prop := 0 < L → ∃ a : Addr, A = some a ∧ a.block < w.heap.size ∧ ∀ i, i < L → w.cell? (a.add i) = some (.string (S i))
theorem add_block (a : Addr) (i : Nat) : (a.add i).block = a.block := by unfold Addr.add; split <;> rfl
theorem StrAt.keep {w w' : World} {A : Option Addr} {L : Nat} {S : Nat → ByteArray} (h : StrAt w A L S) (hb : Below w.heap.size w w') : StrAt w' A L S := fun hl => by
  obtain ⟨a, e, ha, hc⟩ := h hl
  exact ⟨a, e, Nat.lt_of_lt_of_le ha hb.size, fun i hi => (hb.cell (p := a.add i) (by rw [add_block]; exact ha)).trans (hc i hi)⟩
theorem idxSt (a : Addr) (len c k : Nat) (h1 : k < len) (w : World) : (Instr.indexAt 54 (.slice (some a) len c) (.int .i64 (k : Int))).run Tryd.prog w = .ok (.pointer (some (a.add k))) w := by
  have h0 : (0 : Int) ≤ (k : Int) ∧ (k : Int) < (len : Int) := by omega
  go_simp
theorem idxWt (g len c k : Nat) (h1 : k < len) (w : World) : (Instr.indexAt 55 (.slice (some ⟨g, 0, none⟩) len c) (.int .i64 (k : Int))).run Tryd.prog w = .ok (.pointer (some ⟨g, k, none⟩)) w := by
  have e := WideShapes.add_plain g 0 k
  have h0 : (0 : Int) ≤ (k : Int) ∧ (k : Int) < (len : Int) := by omega
  go_simp
def lnS (bl : List UInt8) : ByteArray := (bs bl) ++ (⟨#[111, 117, 116, 32, 97]⟩ : ByteArray)
theorem lnS_list (bl : List UInt8) : (lnS bl).data.toList = bl ++ outA := by unfold lnS; rw [app_list, bs_list]; rfl
end Go.Proofs.YthdognmppbckbaaDoor
