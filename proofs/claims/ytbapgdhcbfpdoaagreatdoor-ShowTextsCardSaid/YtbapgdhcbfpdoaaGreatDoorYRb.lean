/- Layer 4, put together: ShrC, ShrD. -/
import Derived.Test.YtbapgdhcbfpdoaaGreatDoorYRa
/- The document's step (layer 5): what is put behind texts of values. -/
namespace Go.Proofs.YtbapgdhcbfpdoaaGreatDoor
open Go.RowKit
set_option linter.unusedVariables false
set_option linter.unusedSimpArgs false
set_option maxRecDepth 100000
theorem append_zero5 {w : World} {base : Nat} {e : TypeId} {i : TypeInfo} {size : Nat} (t ty : TypeId) (ht : Tryz.prog.underlying t = some (.slice e)) (hi : Tryz.prog.info? e = some i)
    (v : Value) (n : Nat) (xs : List Value) (hown : w.ownsRow base e size v n xs) (A2 : Option Addr) (c : Nat) :
    (Builtin.append_ #[t, t] ty #[v, .slice A2 0 c]).run Tryz.prog w = .ok v w := by
  rcases hown.2 with ⟨rfl, rfl⟩ | ⟨g, cap, cur, rfl, _, _, hnc, _⟩
  · cases A2 with
    | none => simp [Builtin.append_, run_underlying ht, sizeOf, typeInfo, hi, Builtin.lenOf, Builtin.firstCells]
    | some a => simp [Builtin.append_, run_underlying ht, sizeOf, typeInfo, hi, Builtin.lenOf, Builtin.firstCells, loadCells, loadCellsFrom]
  · cases A2 with
    | none => simp [Builtin.append_, run_underlying ht, sizeOf, typeInfo, hi, Builtin.lenOf, Builtin.firstCells, hnc, storeCells]
    | some a => simp [Builtin.append_, run_underlying ht, sizeOf, typeInfo, hi, Builtin.lenOf, Builtin.firstCells, hnc, storeCells, loadCells, loadCellsFrom]
/-- Cells of parts that may be read. -/
def PtR (w : World) (A : Option Addr) (l : List Pt) : Prop := 0 < l.length → ∃ b o, A = some ⟨b, o, none⟩ ∧ ∀ (j : Nat) (u : Value), (l.flatMap ptC)[j]? = some u → w.cell? ((⟨b, o, none⟩ : Addr).add j) = some u
theorem OP.ptr {w : World} {B : Nat} {A : Option Addr} {n c : Nat} {l : List Pt} (h : w.ownsRow B 92 4 (.slice A n c) n (l.flatMap ptC)) : PtR w A l := fun hl => by
  have hlen := ptC_len l
  rcases h.2 with ⟨e, h0⟩ | ⟨g, cap, cur, e, _, hg, _, _, _, ht⟩
  · have := h.1; omega
  · injection e with e1 _ _
    subst e1
    refine ⟨g, 0, rfl, fun j u hj => ?_⟩
    have hadd : (⟨g, 0, none⟩ : Addr).add j = ⟨g, j, none⟩ := by unfold Addr.add; split <;> simp_all
    rw [hadd]
    have hjl := (List.getElem?_eq_some_iff.1 hj).1
    have := World.ownsRow.cellAt h j (by have := h.1; omega)
    rw [this]; exact hj
theorem run_append_pt {w : World} (ty : TypeId) (B : Nat) (v : Value) (n : Nat) (l : List Pt) (h : w.ownsRow B 92 4 v n (l.flatMap ptC)) (A2 : Option Addr) (m c2 : Nat) (l2 : List Pt) (hn : l2.length = m) (hr : PtR w A2 l2) (hm : n + m ≤ 1000000) (hb : B ≤ w.heap.size) :
    ∃ A' c' w', (Builtin.append_ #[88, 88] ty #[v, .slice A2 m c2]).run Tryz.prog w = .ok (.slice A' (n + m) c') w' ∧ w'.ownsRow B 92 4 (.slice A' (n + m) c') (n + m) ((l ++ l2).flatMap ptC) ∧ Below B w w' ∧ ∀ b, b < w.heap.size → v.ownBlock ≠ some b → w'.heap[b]? = w.heap[b]? := by
  obtain ⟨i1, hi, hz0, hz1, hz2⟩ := info_parts infoPt
  rcases Nat.eq_zero_or_pos m with h0 | h0
  · subst h0
    obtain rfl : l2 = [] := List.length_eq_zero_iff.1 hn
    have hrun := append_zero5 (w := w) 88 ty Tryz.underlying88 hi v n _ h A2 c2
    obtain ⟨A, c, rfl, _⟩ := row_shape h
    rw [List.append_nil]
    exact ⟨A, c, w, hrun, h, Below.refl _ _, fun _ _ _ => rfl⟩
  · obtain ⟨b, o, rfl, hc⟩ := hr (by omega)
    obtain ⟨g, cap, w', h1, h2, h3, _, _⟩ := run_append_lies (P := Tryz.prog) w 88 ty B 92 i1 _ 4 40 Tryz.underlying88 hi hz0 hz1 hz2 rfl (by omega) v n (l.flatMap ptC) h ⟨b, o, none⟩ m c2 (l2.flatMap ptC) (by rw [ptC_len, hn]) hc (ptC_one l2) h0 (by unfold maxLen; omega) (by omega) hb w.heap.size rfl
    exact ⟨some ⟨g, 0, none⟩, cap, w', h1, by rw [List.flatMap_append]; exact h2, (Below.refl B w).grown h3 hb fun k hk => (row_base h hk).1, fun b hb2 hne => h3.block b hb2 (Ne.symm hne)⟩
/-- At a step of a region that draws its order. -/
theorem step_append_pt {w : World} {ops : Array Oper} {o : Oper} {a : Act} {K : Act → World → Prop} {Q : Exit → Act → World → Prop} {E : Prop} (hgd : o.guard = none) (sl x : Operand)
    (ho : o.op = .call { callee := .builtin .append, args := #[sl, x], argTypes := #[88, 88] }) (B : Nat) (v : Value) (n : Nat) (l : List Pt) (hs : a.eval sl = v) (h : w.ownsRow B 92 4 v n (l.flatMap ptC)) (A2 : Option Addr) (m c2 : Nat) (l2 : List Pt) (hx : a.eval x = .slice A2 m c2) (hn : l2.length = m) (hr : PtR w A2 l2) (hm : n + m ≤ 1000000) (hb : B ≤ w.heap.size)
    (hK : ∀ A' c' w', w'.ownsRow B 92 4 (.slice A' (n + m) c') (n + m) ((l ++ l2).flatMap ptC) → Below B w w' → (∀ b, b < w.heap.size → v.ownBlock ≠ some b → w'.heap[b]? = w.heap[b]?) → K (a.put o.dst (.slice A' (n + m) c')) w') :
    if Region.wanted o (yielded ops a.tmps) = true then Oper.wp Tryz.prog o a w K Q else E := by
  have hw : Region.wanted o (yielded ops a.tmps) = true := by simp [Region.wanted, hgd]
  rw [if_pos hw]
  obtain ⟨A', c', w', hrun, h2, h3, h4⟩ := run_append_pt o.type B v n l h A2 m c2 l2 hn hr hm hb
  unfold Oper.wp execOp
  simp only [ho, resolve, invoke, builtin, Sem.run_bind, Sem.run_pure, Result.andThen_ok, List.map_toArray, List.map_cons, List.map_nil, hs, hx, hrun]
  exact hK A' c' w' h2 h3 h4
/-- .. onto an empty row of one's own. -/
theorem step_append_pt0 {w : World} {ops : Array Oper} {o : Oper} {a : Act} {K : Act → World → Prop} {Q : Exit → Act → World → Prop} {E : Prop} (hgd : o.guard = none) (sl x : Operand)
    (ho : o.op = .call { callee := .builtin .append, args := #[sl, x], argTypes := #[88, 88] }) (B : Nat) (v : Value) (hs : a.eval sl = v) (h : w.ownsRow B 92 4 v 0 (([] : List Pt).flatMap ptC)) (A2 : Option Addr) (m c2 : Nat) (l2 : List Pt) (hx : a.eval x = .slice A2 m c2) (hn : l2.length = m) (hr : PtR w A2 l2) (hm : m ≤ 1000000) (hb : B ≤ w.heap.size)
    (hK : ∀ A' c' w', w'.ownsRow B 92 4 (.slice A' m c') m (l2.flatMap ptC) → Below B w w' → (∀ b, b < w.heap.size → v.ownBlock ≠ some b → w'.heap[b]? = w.heap[b]?) → K (a.put o.dst (.slice A' m c')) w') :
    if Region.wanted o (yielded ops a.tmps) = true then Oper.wp Tryz.prog o a w K Q else E := by
  refine step_append_pt hgd sl x ho B v 0 [] hs h A2 m c2 l2 hx hn hr (by omega) hb ?_
  rw [Nat.zero_add, List.nil_append]
  exact hK
theorem PtR.keep {w w' : World} {g : Nat} {l : List Pt} (h : PtR w (some ⟨g, 0, none⟩) l) (hb : w'.heap[g]? = w.heap[g]?) : PtR w' (some ⟨g, 0, none⟩) l := fun hl => by
  obtain ⟨b, o, e, hc⟩ := h hl
  injection e with e
  injection e with e1 e2 e3
  subst e1 e2
  refine ⟨g, 0, rfl, fun j u hj => ?_⟩
  have hadd : (⟨g, 0, none⟩ : Addr).add j = ⟨g, j, none⟩ := by unfold Addr.add; split <;> simp_all
  rw [hadd]
  have := hc j u hj
  rw [hadd] at this
  exact (World.cell?_of_block (a := ⟨g, j, none⟩) hb).trans this
theorem PtR.head {w : World} {B g n c : Nat} {l r : List Pt} (h : w.ownsRow B 92 4 (.slice (some ⟨g, 0, none⟩) n c) n ((l ++ r).flatMap ptC)) : PtR w (some ⟨g, 0, none⟩) l := fun hl => by
  obtain ⟨b, o, e, hc⟩ := (OP.ptr h) (by rw [List.length_append]; omega)
  injection e with e
  injection e with e1 e2 e3
  subst e1 e2
  refine ⟨g, 0, rfl, fun j u hj => hc j u ?_⟩
  rw [List.flatMap_append, List.getElem?_append_left (List.getElem?_eq_some_iff.1 hj).1]
  exact hj
theorem PtR.box {w : World} {g : Nat} {p : Pt} (h : w.heap[g]? = some (.cells #[.string (bs p.s), .bool p.pl, .int .i64 p.tk, .int .i64 p.ne] 92 (0, 0))) : PtR w (some ⟨g, 0, none⟩) [p] := fun _ => ⟨g, 0, rfl, World.news_of_block h⟩
theorem own_zero {w : World} {B g : Nat} (h : w.heap[g]? = some (.cells #[] 92 (0, 0))) (hb : B ≤ g) : w.ownsRow B 92 4 (.slice (some ⟨g, 0, none⟩) 0 0) 0 (([] : List Pt).flatMap ptC) :=
  ⟨rfl, .inr ⟨g, 0, #[], rfl, hb, h, Nat.le_refl _, by unfold maxLen; omega, rfl, rfl⟩⟩
def stR (st : List Pt) (x : It) (w : World) (B : Nat) (e : Ending) (w' : World) : Prop := Below B w w' ∧ match stepP st x with
  | none => ∃ v, e = .returned (.tuple #[v, .bool false])
  | some s => ∃ A c, e = .returned (.tuple #[.slice A s.length c, .bool true]) ∧ w'.ownsRow B 92 4 (.slice A s.length c) s.length (s.reverse.flatMap ptC)
end Go.Proofs.YtbapgdhcbfpdoaaGreatDoor
/- t -/
namespace Go.Proofs.YtbapgdhcbfpdoaaGreatDoor
open Go.RowKit
set_option linter.unusedVariables false
set_option linter.unusedSimpArgs false
set_option maxRecDepth 100000
attribute [local go_sem ↓] Go.wp_at_zero Go.wp_at_succ
theorem idxPt (g len c k : Nat) (h1 : k < len) (w : World) : (Instr.indexAt 88 (.slice (some ⟨g, 0, none⟩) len c) (.int .i64 (k : Int))).run Tryz.prog w = .ok (.pointer (some ⟨g, k * 4, none⟩)) w := by
  have e := WideShapes.add_plain g 0 (k * 4)
  rw [Nat.zero_add] at e
  have h0 : (0 : Int) ≤ (k : Int) ∧ (k : Int) < (len : Int) := by omega
  go_simp
theorem stR_put {st : List Pt} {x : It} {p : Pt} {w w' : World} {B n : Nat} {A : Option Addr} {c : Nat} (hst : stepP st x = if 0 < p.tk then some (p :: st) else none) (hn : st.length = n) (hb : Below B w w') (ho : w'.ownsRow B 92 4 (.slice A (n + 1) c) (n + 1) ((st.reverse ++ [p]).flatMap ptC)) : stR st x w B (.returned (.tuple #[.slice A (n + 1) c, .bool (decide (0 < p.tk))])) w' := by
  refine ⟨hb, ?_⟩
  rw [hst]
  by_cases h : 0 < p.tk
  · rw [if_pos h, decide_eq_true h]
    refine ⟨A, c, ?_, ?_⟩
    · rw [List.length_cons, hn]
    · rw [List.length_cons, hn, List.reverse_cons]; exact ho
  · rw [if_neg h, decide_eq_false h]
    exact ⟨_, rfl⟩
set_option maxHeartbeats 3200000 in
theorem step5_opd (x : It) (A : Option Addr) (c : Nat) (w : World) (B : Nat) (st : List Pt) (v : Value) (n : Nat) (hn : st.length = n) (h : w.ownsRow B 92 4 v n (st.reverse.flatMap ptC)) (hB : B ≤ w.heap.size) (hn2 : n ≤ 1000) (hb : ItB x) (hr : NumU w A x.ns) (hh : x.how = 1 ∨ x.how = 2) :
    Calls Tryz.prog 43 #[v, itX x A c] w (stR st x w B) := by
  have hst : stepP st x = if 0 < (opdP x).tk then some (opdP x :: st) else none := by unfold stepP; rw [if_pos hh]
  have hop := fun W (hb2 : Below w.heap.size w W) => operand5_any x A c W hb (hr.below hb2)
  obtain ⟨p, hp⟩ : ∃ p, p = opdP x := ⟨_, rfl⟩
  have htk := opd_tk x
  rw [← hp] at hst hop htk
  obtain ⟨A0, c0, rfl, hc0⟩ := row_shape h
  have hW : Below w.heap.size w (w.alloc (.cells #[.int .i64 x.how, .int .i64 x.pl, .int .u8 x.fn, .string (bs x.nm), .slice A x.ns.length c] 37)) := (Below.refl _ _).alloc (Nat.le_refl _) _
  unfold itX itW at hop ⊢
  have HOP := Lib.hid hop
  have HS := Lib.hid (And.intro hst (And.intro h (And.intro hn htk)))
  have HW := Lib.hid (And.intro hW hW)
  rcases hh with e1 | e1
  · rw [e1] at HOP HW ⊢
    clear hst hop h hW hn htk hb hr hp e1
    go_enter Tryz.func43, Tryz.ntmps43
    go_wp2_with fail
    refine (HOP.out _ HW.out.1).mono ?_
    rintro e w2 ⟨rfl, b2⟩
    unfold partV
    have hB2 := HW.out.1.trans (b2.mono HW.out.1.size)
    have h3 := (Below.refl w2.heap.size w2).alloc (Nat.le_refl _) (.cells #[.string (bs p.s), .bool p.pl, .int .i64 p.tk, .int .i64 p.ne] 92)
    obtain ⟨W3, hW3⟩ : ∃ W3, W3 = w2.alloc (.cells #[.string (bs p.s), .bool p.pl, .int .i64 p.tk, .int .i64 p.ne] 92) := ⟨_, rfl⟩
    have k3 : W3.heap[w2.heap.size]? = some (.cells #[.string (bs p.s), .bool p.pl, .int .i64 p.tk, .int .i64 p.ne] 92 (0, 0)) := by rw [hW3]; exact heap_alloc_new w2 _
    rw [← hW3] at h3
    have hB3 := hB2.trans (h3.mono hB2.size)
    have HW3 := Lib.hid hW3
    obtain ⟨g, hg⟩ : ∃ g, g = w2.heap.size := ⟨_, rfl⟩
    have hgw : w.heap.size ≤ g := by rw [hg]; exact hB2.size
    rw [← hg] at k3
    have HG := Lib.hid hg
    have hgl : g < W3.heap.size := heap_lt k3
    have p0 : W3.cell? ⟨g, 0, none⟩ = some (.string (bs p.s)) := by rw [cell_of_row _ _ _ _ _ _ k3]; rfl
    have p1 : W3.cell? ⟨g, 1, none⟩ = some (.bool p.pl) := by rw [cell_of_row _ _ _ _ _ _ k3]; rfl
    have p2 : W3.cell? ⟨g, 2, none⟩ = some (.int .i64 p.tk) := by rw [cell_of_row _ _ _ _ _ _ k3]; rfl
    have p3 : W3.cell? ⟨g, 3, none⟩ = some (.int .i64 p.ne) := by rw [cell_of_row _ _ _ _ _ _ k3]; rfl
    have HO := Lib.hid (row_keep HS.out.2.1 (fun k hk hl => hB3.block k hl) (Nat.le_refl _))
    have hng : (Value.slice A0 n c0).ownBlock ≠ some g := fun e => by have := (row_base HS.out.2.1 e).2; omega
    have B3 := Lib.hid hB3
    have htk2 := HS.out.2.2.2
    have hl3 : B ≤ W3.heap.size := Nat.le_trans hB hB3.size
    have hrl : st.reverse.length = n := by rw [List.length_reverse]; exact HS.out.2.2.1
    have HRL := Lib.hid hrl
    clear b2 hB2 h3 k3 hB3 hW3 hg hrl
    go_wp2_with fail
    rw [← HW3.out, ← HG.out]
    go_region_law ((refine step_append_pt (by rfl) _ _ (by rfl) B (.slice A0 n c0) n st.reverse (by rfl) ((HO.out.alloc _).drew) (some ⟨W3.heap.size, 0, none⟩) 1 1 [p] (by rfl) (by rfl) (PtR.box (heap_alloc_new W3 _)) (by omega) (by simp; omega) ?_; intro A4 c4 w4 o4 b4 k4; have y2 := (World.cell?_of_block (a := ⟨g, 2, none⟩) ((k4 g (by simp; omega) hng).trans (heap_alloc_old W3 _ hgl))).trans p2))
    all_goals
      have O4 := Lib.hid o4
      have B4 := Lib.hid b4
      clear k4 o4 b4
      go_wp2
      have hfin := stR_put HS.out.1 HS.out.2.2.1 ((B3.out.mono hB).trans ((below_drewN (k := 1) ((Below.refl _ _).alloc hl3 _) (Nat.le_trans hl3 (by simp))).trans B4.out)) O4.out
      exact bodyPost_ret (v := .tuple #[.slice A4 (n + 1) c4, .bool (decide (0 < p.tk))]) (R := stR st x w B) (by simp [results, Tryz.results43, go_sem]) rfl hfin
  · rw [e1] at HOP HW ⊢
    clear hst hop h hW hn htk hb hr hp e1
    go_enter Tryz.func43, Tryz.ntmps43
    go_wp2_with fail
    refine (HOP.out _ HW.out.1).mono ?_
    rintro e w2 ⟨rfl, b2⟩
    unfold partV
    have hB2 := HW.out.1.trans (b2.mono HW.out.1.size)
    have h3 := (Below.refl w2.heap.size w2).alloc (Nat.le_refl _) (.cells #[.string (bs p.s), .bool p.pl, .int .i64 p.tk, .int .i64 p.ne] 92)
    obtain ⟨W3, hW3⟩ : ∃ W3, W3 = w2.alloc (.cells #[.string (bs p.s), .bool p.pl, .int .i64 p.tk, .int .i64 p.ne] 92) := ⟨_, rfl⟩
    have k3 : W3.heap[w2.heap.size]? = some (.cells #[.string (bs p.s), .bool p.pl, .int .i64 p.tk, .int .i64 p.ne] 92 (0, 0)) := by rw [hW3]; exact heap_alloc_new w2 _
    rw [← hW3] at h3
    have hB3 := hB2.trans (h3.mono hB2.size)
    have HW3 := Lib.hid hW3
    obtain ⟨g, hg⟩ : ∃ g, g = w2.heap.size := ⟨_, rfl⟩
    have hgw : w.heap.size ≤ g := by rw [hg]; exact hB2.size
    rw [← hg] at k3
    have HG := Lib.hid hg
    have hgl : g < W3.heap.size := heap_lt k3
    have p0 : W3.cell? ⟨g, 0, none⟩ = some (.string (bs p.s)) := by rw [cell_of_row _ _ _ _ _ _ k3]; rfl
    have p1 : W3.cell? ⟨g, 1, none⟩ = some (.bool p.pl) := by rw [cell_of_row _ _ _ _ _ _ k3]; rfl
    have p2 : W3.cell? ⟨g, 2, none⟩ = some (.int .i64 p.tk) := by rw [cell_of_row _ _ _ _ _ _ k3]; rfl
    have p3 : W3.cell? ⟨g, 3, none⟩ = some (.int .i64 p.ne) := by rw [cell_of_row _ _ _ _ _ _ k3]; rfl
    have HO := Lib.hid (row_keep HS.out.2.1 (fun k hk hl => hB3.block k hl) (Nat.le_refl _))
    have hng : (Value.slice A0 n c0).ownBlock ≠ some g := fun e => by have := (row_base HS.out.2.1 e).2; omega
    have B3 := Lib.hid hB3
    have htk2 := HS.out.2.2.2
    have hl3 : B ≤ W3.heap.size := Nat.le_trans hB hB3.size
    have hrl : st.reverse.length = n := by rw [List.length_reverse]; exact HS.out.2.2.1
    have HRL := Lib.hid hrl
    clear b2 hB2 h3 k3 hB3 hW3 hg hrl
    go_wp2_with fail
    rw [← HW3.out, ← HG.out]
    go_region_law ((refine step_append_pt (by rfl) _ _ (by rfl) B (.slice A0 n c0) n st.reverse (by rfl) ((HO.out.alloc _).drew) (some ⟨W3.heap.size, 0, none⟩) 1 1 [p] (by rfl) (by rfl) (PtR.box (heap_alloc_new W3 _)) (by omega) (by simp; omega) ?_; intro A4 c4 w4 o4 b4 k4; have y2 := (World.cell?_of_block (a := ⟨g, 2, none⟩) ((k4 g (by simp; omega) hng).trans (heap_alloc_old W3 _ hgl))).trans p2))
    all_goals
      have O4 := Lib.hid o4
      have B4 := Lib.hid b4
      clear k4 o4 b4
      go_wp2
      have hfin := stR_put HS.out.1 HS.out.2.2.1 ((B3.out.mono hB).trans ((below_drewN (k := 1) ((Below.refl _ _).alloc hl3 _) (Nat.le_trans hl3 (by simp))).trans B4.out)) O4.out
      exact bodyPost_ret (v := .tuple #[.slice A4 (n + 1) c4, .bool (decide (0 < p.tk))]) (R := stR st x w B) (by simp [results, Tryz.results43, go_sem]) rfl hfin
def OkR (w : World) (B m : Nat) (r : List Pt) (P : Pt) (e : Ending) (w' : World) : Prop := Below B w w' ∧ ∃ (A' : Option Addr) (c' : Nat), e = .returned (.tuple #[.slice A' (m + 1) c', .bool true]) ∧ w'.ownsRow B 92 4 (.slice A' (m + 1) c') (m + 1) ((r.reverse ++ [P]).flatMap ptC)
end Go.Proofs.YtbapgdhcbfpdoaaGreatDoor
