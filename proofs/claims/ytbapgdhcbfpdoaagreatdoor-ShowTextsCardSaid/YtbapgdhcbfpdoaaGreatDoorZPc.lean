/- Layer 4, put together: ParU6, ParYa, ParYb, ParYc. -/
import Derived.Test.YtbapgdhcbfpdoaaGreatDoorZPb
/- Contract of the reader: phrase, one of its ways. Written by gen_u.py. -/
namespace Go.Proofs.YtbapgdhcbfpdoaaGreatDoor
open Go.RowKit
attribute [local go_sem ↓] Go.wp_at_zero Go.wp_at_succ
set_option maxRecDepth 100000 in
set_option maxHeartbeats 3200000 in
theorem phrase_no1 (w : World) (R b o c : Nat) (k : Int) (t u : Tk) (ts : List Tk) (ms : List IM) (tm : List (Option TE)) (vi vt : Value) (h : RS w R b o c k (t :: u :: ts) ms tm vi vt) (hL : LaidR w R) (us : List Tk) (hm : mk (u :: ts) = ([47], us)) (hne : 0 < us.length) :
    Calls Tryz.prog 74 #[.pointer (some ⟨R, 0, none⟩), .bool true] w (Phr w R b k t (0, 0) us ms tm vi vt) := by
  obtain ⟨i0, hi, hz0, hz1, hz2⟩ := info_parts infoFn
  have HI := Lib.hid (And.intro hi (And.intro hz0 (And.intro hz1 hz2)))
  clear hi hz0 hz1 hz2
  obtain ⟨A, ct, rfl, hct⟩ := row_shape h.owt
  have hbn := h.bnd
  simp only [List.length_cons] at hbn
  have HS := Lib.hid h
  clear h
  have x0 : ((bs [47]).toList == [47]) = true := cmpYes rfl
  have x1 : ((bs [47]).toList == [92]) = false := cmpNo (by decide)
  have x2 : ((bs [47]).toList == [46]) = false := cmpNo (by decide)
  have x3 : ((bs [47]).toList == []) = false := cmpNo (by decide)
  have hfw := fun w => fieldW t w
  have hR := HS.out.lt
  have hne2 : 0 < (mk (u :: ts)).2.length := by rw [hm]; exact hne
  go_enter Tryz.func74, Tryz.ntmps74
  go_wp2_with (first
    | (go_at_call 77; refine (take_any _ R b o c k t (u :: ts) ms tm vi _ ((HS.out.alloc _).alloc _) (by simp)).mono ?_; rintro e w1 ⟨rfl, hs1, f1⟩; have hz1 := f1.size; rw [size2] at hz1; have hx1 := Fx.make (t := t) hR f1; have q1 := Fx.q1 hR f1; have n1 : w.heap.size < w1.heap.size := (by omega); have n2 : w.heap.size < w1.heap.size + 1 := (by omega); have n3 : w.heap.size + 1 < w1.heap.size := (by omega); have n4 : w.heap.size + 1 < w1.heap.size + 1 := (by omega); have HX1 := Lib.hid (And.intro hs1 (And.intro f1 hx1)); clear hs1 f1 hx1)
    | (go_at_call 95; refine (mark_any _ R b (o + 4) (c - 1) k u ts ms tm vi _ ((HX1.out.1.alloc _).alloc _) hne2 [47] us hm).mono ?_; rintro e w2 ⟨rfl, o2, c2, pre, hpre, ho2, hs2, f2⟩; have hx2 := HX1.out.2.2.fr f2; have hL2 := (((hL.below (up _)).below (up _)).frR HX1.out.2.1); have hL3 := Lib.hid (((hL2.below (up _)).below (up _)).frR f2); clear hL2; obtain ⟨q2, ⟨a2, b2, fa2, fb2⟩, ⟨s20, s21, s22, s23⟩, ⟨p20, p21, p22, p23, p24⟩, fp20, fp22⟩ := hx2.cells; have l2 := hx2.l; have HX2 := Lib.hid (And.intro hs2 (And.intro f2 (And.intro hx2 (And.intro hpre ho2)))); clear hs2 f2 hx2 hpre ho2)
    | (go_at_call 22; refine (fault_any t 43 _).mono ?_; rintro e w5 ⟨rfl, g5⟩; have h5 := (g5.below.block (w.heap.size + 1) (by first | omega | (simp; omega))).trans HX2.out.2.2.1.f; have j0 : w5.cell? ⟨w.heap.size + 1, 0, none⟩ = some (.int .i64 0) := (by rw [cell_of_row _ _ _ _ _ _ h5]; rfl); have j1 : w5.cell? ⟨w.heap.size + 1, 1, none⟩ = some (.int .i64 0) := (by rw [cell_of_row _ _ _ _ _ _ h5]; rfl); have j2 := frozen_of_row _ _ 0 _ _ h5; have j3 := frozen_of_row _ _ 1 _ _ h5; clear h5; have G5 := Lib.hid g5; clear g5))
  exact bodyPost_ret (v := .agg #[.int .i64 t.a, .int .i64 43]) (by simp [results, Tryz.results74, go_sem, j0, j1]) rfl (.inl ⟨rfl, rfl, Fr.weak ((((((((((Fr.refl (fun j => j = R) w).alloc _).alloc _).trans HX1.out.2.1).alloc _).alloc _).trans HX2.out.2.1).gr G5.out).set (b := w.heap.size + 1) (.inr (by omega)) 0 (.int .i64 t.a)).set (b := w.heap.size + 1) (.inr (by omega)) 1 (.int .i64 43)) fun _ _ hi => .inl hi⟩)
set_option maxRecDepth 100000 in
set_option maxHeartbeats 3200000 in
theorem phrase_no2 (w : World) (R b o c : Nat) (k : Int) (t u : Tk) (ts : List Tk) (ms : List IM) (tm : List (Option TE)) (vi vt : Value) (h : RS w R b o c k (t :: u :: ts) ms tm vi vt) (hL : LaidR w R) (us : List Tk) (hm : mk (u :: ts) = ([92], us)) (hne : 0 < us.length) :
    Calls Tryz.prog 74 #[.pointer (some ⟨R, 0, none⟩), .bool true] w (Phr w R b k t (0, 0) us ms tm vi vt) := by
  obtain ⟨i0, hi, hz0, hz1, hz2⟩ := info_parts infoFn
  have HI := Lib.hid (And.intro hi (And.intro hz0 (And.intro hz1 hz2)))
  clear hi hz0 hz1 hz2
  obtain ⟨A, ct, rfl, hct⟩ := row_shape h.owt
  have hbn := h.bnd
  simp only [List.length_cons] at hbn
  have HS := Lib.hid h
  clear h
  have x0 : ((bs [92]).toList == [47]) = false := cmpNo (by decide)
  have x1 : ((bs [92]).toList == [92]) = true := cmpYes rfl
  have x2 : ((bs [92]).toList == [46]) = false := cmpNo (by decide)
  have x3 : ((bs [92]).toList == []) = false := cmpNo (by decide)
  have hfw := fun w => fieldW t w
  have hR := HS.out.lt
  have hne2 : 0 < (mk (u :: ts)).2.length := by rw [hm]; exact hne
  go_enter Tryz.func74, Tryz.ntmps74
  go_wp2_with (first
    | (go_at_call 77; refine (take_any _ R b o c k t (u :: ts) ms tm vi _ ((HS.out.alloc _).alloc _) (by simp)).mono ?_; rintro e w1 ⟨rfl, hs1, f1⟩; have hz1 := f1.size; rw [size2] at hz1; have hx1 := Fx.make (t := t) hR f1; have q1 := Fx.q1 hR f1; have n1 : w.heap.size < w1.heap.size := (by omega); have n2 : w.heap.size < w1.heap.size + 1 := (by omega); have n3 : w.heap.size + 1 < w1.heap.size := (by omega); have n4 : w.heap.size + 1 < w1.heap.size + 1 := (by omega); have HX1 := Lib.hid (And.intro hs1 (And.intro f1 hx1)); clear hs1 f1 hx1)
    | (go_at_call 95; refine (mark_any _ R b (o + 4) (c - 1) k u ts ms tm vi _ ((HX1.out.1.alloc _).alloc _) hne2 [92] us hm).mono ?_; rintro e w2 ⟨rfl, o2, c2, pre, hpre, ho2, hs2, f2⟩; have hx2 := HX1.out.2.2.fr f2; have hL2 := (((hL.below (up _)).below (up _)).frR HX1.out.2.1); have hL3 := Lib.hid (((hL2.below (up _)).below (up _)).frR f2); clear hL2; obtain ⟨q2, ⟨a2, b2, fa2, fb2⟩, ⟨s20, s21, s22, s23⟩, ⟨p20, p21, p22, p23, p24⟩, fp20, fp22⟩ := hx2.cells; have l2 := hx2.l; have HX2 := Lib.hid (And.intro hs2 (And.intro f2 (And.intro hx2 (And.intro hpre ho2)))); clear hs2 f2 hx2 hpre ho2)
    | (go_at_call 22; refine (fault_any t 43 _).mono ?_; rintro e w5 ⟨rfl, g5⟩; have h5 := (g5.below.block (w.heap.size + 1) (by first | omega | (simp; omega))).trans HX2.out.2.2.1.f; have j0 : w5.cell? ⟨w.heap.size + 1, 0, none⟩ = some (.int .i64 0) := (by rw [cell_of_row _ _ _ _ _ _ h5]; rfl); have j1 : w5.cell? ⟨w.heap.size + 1, 1, none⟩ = some (.int .i64 0) := (by rw [cell_of_row _ _ _ _ _ _ h5]; rfl); have j2 := frozen_of_row _ _ 0 _ _ h5; have j3 := frozen_of_row _ _ 1 _ _ h5; clear h5; have G5 := Lib.hid g5; clear g5))
  exact bodyPost_ret (v := .agg #[.int .i64 t.a, .int .i64 43]) (by simp [results, Tryz.results74, go_sem, j0, j1]) rfl (.inl ⟨rfl, rfl, Fr.weak ((((((((((Fr.refl (fun j => j = R) w).alloc _).alloc _).trans HX1.out.2.1).alloc _).alloc _).trans HX2.out.2.1).gr G5.out).set (b := w.heap.size + 1) (.inr (by omega)) 0 (.int .i64 t.a)).set (b := w.heap.size + 1) (.inr (by omega)) 1 (.int .i64 43)) fun _ _ hi => .inl hi⟩)
set_option maxRecDepth 100000 in
set_option maxHeartbeats 3200000 in
theorem phrase_no3 (w : World) (R b o c : Nat) (k : Int) (t u : Tk) (ts : List Tk) (ms : List IM) (tm : List (Option TE)) (vi vt : Value) (h : RS w R b o c k (t :: u :: ts) ms tm vi vt) (hL : LaidR w R) (us : List Tk) (hm : mk (u :: ts) = ([46], us)) (hne : 0 < us.length) :
    Calls Tryz.prog 74 #[.pointer (some ⟨R, 0, none⟩), .bool false] w (Phr w R b k t (0, 0) us ms tm vi vt) := by
  obtain ⟨i0, hi, hz0, hz1, hz2⟩ := info_parts infoFn
  have HI := Lib.hid (And.intro hi (And.intro hz0 (And.intro hz1 hz2)))
  clear hi hz0 hz1 hz2
  obtain ⟨A, ct, rfl, hct⟩ := row_shape h.owt
  have hbn := h.bnd
  simp only [List.length_cons] at hbn
  have HS := Lib.hid h
  clear h
  have x0 : ((bs [46]).toList == [47]) = false := cmpNo (by decide)
  have x1 : ((bs [46]).toList == [92]) = false := cmpNo (by decide)
  have x2 : ((bs [46]).toList == [46]) = true := cmpYes rfl
  have x3 : ((bs [46]).toList == []) = false := cmpNo (by decide)
  have hfw := fun w => fieldW t w
  have hR := HS.out.lt
  have hne2 : 0 < (mk (u :: ts)).2.length := by rw [hm]; exact hne
  go_enter Tryz.func74, Tryz.ntmps74
  go_wp2_with (first
    | (go_at_call 77; refine (take_any _ R b o c k t (u :: ts) ms tm vi _ ((HS.out.alloc _).alloc _) (by simp)).mono ?_; rintro e w1 ⟨rfl, hs1, f1⟩; have hz1 := f1.size; rw [size2] at hz1; have hx1 := Fx.make (t := t) hR f1; have q1 := Fx.q1 hR f1; have n1 : w.heap.size < w1.heap.size := (by omega); have n2 : w.heap.size < w1.heap.size + 1 := (by omega); have n3 : w.heap.size + 1 < w1.heap.size := (by omega); have n4 : w.heap.size + 1 < w1.heap.size + 1 := (by omega); have HX1 := Lib.hid (And.intro hs1 (And.intro f1 hx1)); clear hs1 f1 hx1)
    | (go_at_call 95; refine (mark_any _ R b (o + 4) (c - 1) k u ts ms tm vi _ ((HX1.out.1.alloc _).alloc _) hne2 [46] us hm).mono ?_; rintro e w2 ⟨rfl, o2, c2, pre, hpre, ho2, hs2, f2⟩; have hx2 := HX1.out.2.2.fr f2; have hL2 := (((hL.below (up _)).below (up _)).frR HX1.out.2.1); have hL3 := Lib.hid (((hL2.below (up _)).below (up _)).frR f2); clear hL2; obtain ⟨q2, ⟨a2, b2, fa2, fb2⟩, ⟨s20, s21, s22, s23⟩, ⟨p20, p21, p22, p23, p24⟩, fp20, fp22⟩ := hx2.cells; have l2 := hx2.l; have HX2 := Lib.hid (And.intro hs2 (And.intro f2 (And.intro hx2 (And.intro hpre ho2)))); clear hs2 f2 hx2 hpre ho2)
    | (go_at_call 22; refine (fault_any t 43 _).mono ?_; rintro e w5 ⟨rfl, g5⟩; have h5 := (g5.below.block (w.heap.size + 1) (by first | omega | (simp; omega))).trans HX2.out.2.2.1.f; have j0 : w5.cell? ⟨w.heap.size + 1, 0, none⟩ = some (.int .i64 0) := (by rw [cell_of_row _ _ _ _ _ _ h5]; rfl); have j1 : w5.cell? ⟨w.heap.size + 1, 1, none⟩ = some (.int .i64 0) := (by rw [cell_of_row _ _ _ _ _ _ h5]; rfl); have j2 := frozen_of_row _ _ 0 _ _ h5; have j3 := frozen_of_row _ _ 1 _ _ h5; clear h5; have G5 := Lib.hid g5; clear g5))
  exact bodyPost_ret (v := .agg #[.int .i64 t.a, .int .i64 43]) (by simp [results, Tryz.results74, go_sem, j0, j1]) rfl (.inl ⟨rfl, rfl, Fr.weak ((((((((((Fr.refl (fun j => j = R) w).alloc _).alloc _).trans HX1.out.2.1).alloc _).alloc _).trans HX2.out.2.1).gr G5.out).set (b := w.heap.size + 1) (.inr (by omega)) 0 (.int .i64 t.a)).set (b := w.heap.size + 1) (.inr (by omega)) 1 (.int .i64 43)) fun _ _ hi => .inl hi⟩)
end Go.Proofs.YtbapgdhcbfpdoaaGreatDoor
/- Contract of the reader: operand, a name and an open bracket: the walks. Written by gen_ya.py. -/
namespace Go.Proofs.YtbapgdhcbfpdoaaGreatDoor
open Go.RowKit
attribute [local go_sem ↓] Go.wp_at_zero Go.wp_at_succ
theorem news1 (W : World) (n : Nat) (hn : W.heap.size = n) (x : Value) (T : TypeId) : ∀ (j : Nat) (u : Value), ([x] : List Value)[j]? = some u → (W.alloc (.cells #[x] T)).cell? ((⟨n, 0, none⟩ : Addr).add j) = some u := by
  subst hn; exact World.news_of_block (cs := #[x]) (t := T) (fr := (0, 0)) (heap_alloc_new W _)
set_option maxRecDepth 100000 in
set_option maxHeartbeats 3200000 in
theorem operand_open (w : World) (R b o c : Nat) (k : Int) (t : Tk) (ts : List Tk) (ms : List IM) (tm : List (Option TE)) (vi vt : Value) (h : RS w R b o c k (t :: ts) ms tm vi vt) (hL : LaidR w R) (hk : t.k ≠ 2) (hw : t.w.length ≤ 1000) (hne : 0 < ts.length) (hn : nameB t.w = false) (hp : t.w = [40]) (hk32 : k ≠ 32) (hk0 : 0 ≤ k ∧ k ≤ 1000000) :
    Calls Tryz.prog 75 #[.pointer (some ⟨R, 0, none⟩)] w (OpOpen w R b k ts ms tm vi vt) := by
  obtain ⟨c0, c1, c2, c3, f0⟩ := h.cells
  have hlt := h.lt
  obtain ⟨t0, t1, t2, t3⟩ := h.head
  have hb := h.sb.1
  have hcap := h.cap
  have hbnd := h.bnd
  simp only [List.length_cons] at c0 hcap hbnd
  have HS := Lib.hid h
  clear h f0
  have hk2 : (t.k == 2) = false := by simpa using hk
  have hfw := fun w => fieldW t w
  have hnm := fun W hP => name_any (bs t.w) W hP (by rw [bs_size]; omega)
  rw [bs_list, hn] at hnm
  obtain ⟨i0, hi, hz0, hz1, hz2⟩ := info_parts infoFn
  have HI := Lib.hid (And.intro hi (And.intro hz0 (And.intro hz1 hz2)))
  clear hi hz0 hz1 hz2
  have X0 := Lib.hid (cmpYes hp)
  have X1 := Lib.hid (show (k == 32) = false by simpa using hk32)
  clear hp hk32
  obtain ⟨hk01, hk02⟩ := hk0
  obtain ⟨A, ct, rfl, hct⟩ := row_shape HS.out.owt
  have nR : (Value.slice A tm.length ct).ownBlock ≠ some R := fun h => by have := (row_base HS.out.owt h).1; omega
  have nF : (Value.slice A tm.length ct).ownBlock ≠ some w.heap.size := fun h => by have := (row_base HS.out.owt h).2; omega
  have hn1 : tm.length + 1 ≤ maxLen := by unfold maxLen; omega
  have hn2 : (tm.length + 1) * 8 ≤ 140737488355328 := by omega
  go_enter Tryz.func75, Tryz.ntmps75
  go_wp2_with (first
    | (go_at_call 38; refine (hnm _ ((hL.fr (ow_fr (fun _ => False) w t) (fun _ h => h.elim)).laid)).mono ?_; rintro e w1 ⟨rfl, g1⟩; have hs1 := (ow_rs HS.out t).keep g1; have hx1 := (Ox.make (t := t) hlt).below g1; obtain ⟨⟨a1, b1, fa1, fb1⟩, ⟨s10, s11, s12, s13⟩⟩ := hx1.fcells; obtain ⟨p10, p11, p12, p13, p14, fp10, fp13, fp14⟩ := hx1.pcells; obtain ⟨d0, d1, d2, d3, df⟩ := hs1.cells; have df0 := df 0; have df1 := df 1; have df2 := df 2; have df3 := df 3; obtain ⟨u0, u1, u2, u3⟩ := hs1.head; have ub := hs1.sb.1; have l1 := hx1.l; have l2 := hs1.lt; have HX1 := Lib.hid (And.intro g1 (And.intro hs1 hx1)); clear df g1 hs1 hx1; have x0 := X0.out; have x1 := X1.out)
    | (go_at_call 77; refine (take_any _ R b o c k t ts ms tm vi _ HX1.out.2.1 hne).mono ?_; rintro e w2 ⟨rfl, hs2, f2⟩; have hx2 := HX1.out.2.2.fr f2; obtain ⟨⟨a2, b2, fa2, fb2⟩, ⟨s20, s21, s22, s23⟩⟩ := hx2.fcells; obtain ⟨p20, p21, p22, p23, p24, fp20, fp23, fp24⟩ := hx2.pcells; obtain ⟨e0, e1, e2, e3, ef⟩ := hs2.cells; have ef0 := ef 0; have ef1 := ef 1; have ef2 := ef 2; have ef3 := ef 3; have lx2 := hx2.l; have lr2 := hs2.lt; have HX2 := Lib.hid (And.intro f2 (And.intro hs2 hx2)); clear ef f2 hs2 hx2; have F3 := Lib.hid ((((ow_fr (fun j => j = R) w t).trans (below_fr HX1.out.1 _)).trans HX2.out.1).set (b := R) (.inl rfl) 3 (.int .i64 (k + 1))); have HO3 := Lib.hid (rowR HS.out.owt F3.out); have HR3 := Lib.hid (heap_setCell_same _ _ 3 _ _ (.int .i64 (k + 1)) HX2.out.2.1.blk))
    | (at_builtin; refine wpList_append_lies _ rfl (.tmp 77) (.tmp 78) _ rfl (R + 1) 1 i0 _ 1 8 Tryz.underlying119 HI.out.1 HI.out.2.1 HI.out.2.2.1 HI.out.2.2.2 rfl (by omega) (.slice A tm.length ct) tm.length (tm.reverse.map tval) rfl (HO3.out.alloc _) ⟨w2.heap.size, 0, none⟩ 1 1 [.nilFunc] rfl rfl (news1 _ _ (by simp) _ _) (by intro u hu; simp at hu; subst hu; rfl) (by omega) hn1 hn2 (by simp; omega) (w2.heap.size + 1) (by simp) ?_; intro g cap w4 hown4 hgrow hat hlt4; have hk4 : ∀ j, j < w2.heap.size → (Value.slice A tm.length ct).ownBlock ≠ some j → w4.heap[j]? = (w2.setCell ⟨R, 3, none⟩ (.int .i64 (k + 1))).heap[j]? := fun j hj hn => (hgrow.block j (by simp; omega) (Ne.symm hn)).trans (heap_alloc_old _ _ (by simpa using hj)); have hR4 := (hk4 R lr2 nR).trans HR3.out; have k1 : w4.cell? ⟨R, 2, none⟩ = some (.slice A tm.length ct) := (by rw [cell_of_row _ _ _ _ _ _ hR4]; rfl); have k2 : w4.frozen? ⟨R, 2, none⟩ = false := frozen_of_row _ _ _ _ _ hR4; have hf4 := (hk4 w.heap.size (by omega) nF).trans ((Fr.set.heap_set_other (by omega)).trans HX2.out.2.2.f); have j0 : w4.cell? ⟨w.heap.size, 0, none⟩ = some (.int .i64 0) := (by rw [cell_of_row _ _ _ _ _ _ hf4]; rfl); have j1 : w4.cell? ⟨w.heap.size, 1, none⟩ = some (.int .i64 0) := (by rw [cell_of_row _ _ _ _ _ _ hf4]; rfl); have j2 : w4.frozen? ⟨w.heap.size, 0, none⟩ = false := frozen_of_row _ _ _ _ _ hf4; have j3 : w4.frozen? ⟨w.heap.size, 1, none⟩ = false := frozen_of_row _ _ _ _ _ hf4; have HG := Lib.hid (And.intro hown4 (And.intro hgrow hat)); clear hown4 hgrow hat hk4 hR4 hf4))
  have hfin := open_close (x := .cells #[.nilFunc] 1) (pre := [t]) (us := ts) HS.out F3.out HR3.out ⟨HG.out.2.1.os, HG.out.2.1.tape, HG.out.2.1.output, HG.out.2.1.size, HG.out.2.1.block⟩ HG.out.1 (by simpa using HG.out.2.2) (by simp; omega) rfl (by simp) HX2.out.2.1.cap (by simp)
  exact bodyPost_ret (v := .tuple #[.bool false, .agg #[.int .i64 0, .int .i64 0]]) (by simp [results, Tryz.results75, go_sem, j0, j1]) rfl ⟨rfl, _, _, _, hfin⟩
end Go.Proofs.YtbapgdhcbfpdoaaGreatDoor
/- Contract of the reader: operand, a name and an open bracket: the walks. Written by gen_ya.py. -/
namespace Go.Proofs.YtbapgdhcbfpdoaaGreatDoor
open Go.RowKit
attribute [local go_sem ↓] Go.wp_at_zero Go.wp_at_succ
theorem news2 (W : World) (n : Nat) (hn : W.heap.size = n) (x : Value) (T : TypeId) : ∀ (j : Nat) (u : Value), ([x] : List Value)[j]? = some u → (W.alloc (.cells #[x] T)).cell? ((⟨n, 0, none⟩ : Addr).add j) = some u := by
  subst hn; exact World.news_of_block (cs := #[x]) (t := T) (fr := (0, 0)) (heap_alloc_new W _)
theorem Ox.set {w : World} {R n : Nat} {t : Tk} {cs : Array Value} (h : Ox w R n t cs) (j : Nat) (v : Value) : Ox (w.setCell ⟨n + 1 + 1, j, none⟩ v) R n t (cs.setIfInBounds j v) :=
  ⟨(Fr.set.heap_set_other (by omega)).trans h.f, (Fr.set.heap_set_other (by omega)).trans h.s, heap_setCell_same _ _ _ _ _ _ h.p, by simpa using h.l.1, h.l.2⟩
set_option maxRecDepth 100000 in
set_option maxHeartbeats 3200000 in
theorem operand_name (w : World) (R b o c : Nat) (k : Int) (t : Tk) (ts : List Tk) (ms : List IM) (tm : List (Option TE)) (vi vt : Value) (h : RS w R b o c k (t :: ts) ms tm vi vt) (hL : LaidR w R) (hk : t.k ≠ 2) (hw : t.w.length ≤ 1000) (hne : 0 < ts.length) (hn : nameB t.w = true) :
    Calls Tryz.prog 75 #[.pointer (some ⟨R, 0, none⟩)] w (OpItem w R b k ⟨2, t.a, 0, t.w, []⟩ ts ms tm vi vt) := by
  obtain ⟨c0, c1, c2, c3, f0⟩ := h.cells
  have hlt := h.lt
  obtain ⟨t0, t1, t2, t3⟩ := h.head
  have hb := h.sb.1
  have hcap := h.cap
  have hbnd := h.bnd
  simp only [List.length_cons] at c0 hcap hbnd
  have HS := Lib.hid h
  clear h f0
  have hk2 : (t.k == 2) = false := by simpa using hk
  have hfw := fun w => fieldW t w
  have hnm := fun W hP => name_any (bs t.w) W hP (by rw [bs_size]; omega)
  rw [bs_list, hn] at hnm
  obtain ⟨i0, hi, hz0, hz1, hz2⟩ := info_parts infoI
  have HI := Lib.hid (And.intro hi (And.intro hz0 (And.intro hz1 hz2)))
  clear hi hz0 hz1 hz2
  obtain ⟨A, ct, rfl, hct⟩ := row_shape HS.out.own
  have nR : (Value.slice A ms.length ct).ownBlock ≠ some R := fun h => by have := (row_base HS.out.own h).1; omega
  have nF : (Value.slice A ms.length ct).ownBlock ≠ some w.heap.size := fun h => by have := (row_base HS.out.own h).2; omega
  have hn1 : ms.length + 1 ≤ maxLen := by unfold maxLen; omega
  have hn2 : (ms.length + 1) * 64 ≤ 140737488355328 := by omega
  go_enter Tryz.func75, Tryz.ntmps75
  go_wp2_with (first
    | (go_at_call 38; refine (hnm _ ((hL.fr (ow_fr (fun _ => False) w t) (fun _ h => h.elim)).laid)).mono ?_; rintro e w1 ⟨rfl, g1⟩; have hs1 := (ow_rs HS.out t).keep g1; have hx1 := (Ox.make (t := t) hlt).below g1; obtain ⟨⟨a1, b1, fa1, fb1⟩, ⟨s10, s11, s12, s13⟩⟩ := hx1.fcells; obtain ⟨p10, p11, p12, p13, p14, fp10, fp13, fp14⟩ := hx1.pcells; obtain ⟨d0, d1, d2, d3, df⟩ := hs1.cells; have df0 := df 0; have df1 := df 1; have df2 := df 2; have df3 := df 3; obtain ⟨u0, u1, u2, u3⟩ := hs1.head; have ub := hs1.sb.1; have l1 := hx1.l; have l2 := hs1.lt; have HX1 := Lib.hid (And.intro g1 (And.intro hs1 hx1)); clear df g1 hs1 hx1)
    | (go_at_call 77; refine (take_any _ R b o c k t ts ms tm _ vt (HS.out.keep ((((ow_fr (fun _ => False) w t).trans (below_fr HX1.out.1 _)).set (b := w.heap.size + 1 + 1) (.inr (by omega)) 0 (.int .i64 2)).below (Nat.le_refl _) (fun _ h => h.elim))) hne).mono ?_; rintro e w2 ⟨rfl, hs2, f2⟩; have hx2 := (HX1.out.2.2.set 0 (.int .i64 2)).fr f2; obtain ⟨⟨a2, b2, fa2, fb2⟩, ⟨s20, s21, s22, s23⟩⟩ := hx2.fcells; obtain ⟨p20, p21, p22, p23, p24, fp20, fp23, fp24⟩ := hx2.pcells; obtain ⟨e0, e1, e2, e3, ef⟩ := hs2.cells; have ef0 := ef 0; have ef1 := ef 1; have ef2 := ef 2; have ef3 := ef 3; have lx2 := hx2.l; have lr2 := hs2.lt; have HX2 := Lib.hid (And.intro f2 (And.intro hs2 hx2)); clear ef f2 hs2 hx2))
  obtain ⟨W3, hW3⟩ : ∃ W, W = w2.setCell ⟨w.heap.size + 1 + 1, 3, none⟩ (.string (bs t.w)) := ⟨_, rfl⟩
  rw [← hW3]
  obtain ⟨m, hm⟩ : ∃ m : IM, m = ⟨⟨2, t.a, 0, t.w, []⟩, none, 0⟩ := ⟨_, rfl⟩
  have F3 : Fr (fun j => j = R) w W3 := by
    rw [hW3]
    exact ((((ow_fr (fun j => j = R) w t).trans (below_fr HX1.out.1 _)).set (b := w.heap.size + 1 + 1) (.inr (by omega)) 0 (.int .i64 2)).trans HX2.out.1).set (b := w.heap.size + 1 + 1) (.inr (by omega)) 3 (.string (bs t.w))
  have hx3 : Ox W3 R w.heap.size t m.cells.toArray := by rw [hW3, hm]; exact HX2.out.2.2.set 3 (.string (bs t.w))
  have hR3 : W3.heap[R]? = some (.cells #[.slice (some ⟨b, o + 4, none⟩) ts.length (c - 1), .slice A ms.length ct, vt, .int .i64 k] 121 (0, 0)) := by
    rw [hW3]; exact (Fr.set.heap_set_other (by omega)).trans HX2.out.2.1.blk
  have hz3 : w.heap.size + 3 ≤ W3.heap.size := by have := hx3.l; omega
  have hP := hx3.p
  rw [hm] at hP
  have p30 : W3.cell? ⟨w.heap.size + 1 + 1, 0, none⟩ = some (.int .i64 m.it.how) := by rw [cell_of_row _ _ _ _ _ _ hP, hm]; rfl
  have p31 : W3.cell? ⟨w.heap.size + 1 + 1, 1, none⟩ = some (.int .i64 m.it.pl) := by rw [cell_of_row _ _ _ _ _ _ hP, hm]; rfl
  have p32 : W3.cell? ⟨w.heap.size + 1 + 1, 2, none⟩ = some (.int .u8 m.it.fn) := by rw [cell_of_row _ _ _ _ _ _ hP, hm]; rfl
  have p33 : W3.cell? ⟨w.heap.size + 1 + 1, 3, none⟩ = some (.string (bs m.it.nm)) := by rw [cell_of_row _ _ _ _ _ _ hP, hm]; rfl
  have p34 : W3.cell? ⟨w.heap.size + 1 + 1, 4, none⟩ = some (.slice m.A m.it.ns.length m.c) := by rw [cell_of_row _ _ _ _ _ _ hP, hm]; rfl
  have HO3 := Lib.hid (rowR HS.out.own F3)
  have cR : W3.cell? ⟨R, 1, none⟩ = some (.slice A ms.length ct) := by rw [cell_of_row _ _ _ _ _ _ hR3]; rfl
  have fR : W3.frozen? ⟨R, 1, none⟩ = false := frozen_of_row _ _ _ _ _ hR3
  have lR : R < W3.heap.size := by omega
  have lF : w.heap.size < W3.heap.size := by omega
  have hmi : m.it = ⟨2, t.a, 0, t.w, []⟩ := by rw [hm]
  have hmA : RdN W3 (fun j => w.heap.size < j ∧ j < W3.heap.size) m.A m.it.ns := by rw [hm]; exact RdN.nil _ _ _
  have HH := Lib.hid (And.intro F3 (And.intro hR3 (And.intro hx3 (And.intro hmi hmA))))
  have HC := Lib.hid HX2.out.2.1.cap
  clear F3 hR3 hx3 hP hmi hmA hW3 hm 
  go_region_law ((refine step_append_lies _ (by rfl) _ _ _ (by rfl) (R + 1) 37 i0 _ 5 64 Tryz.underlying31 HI.out.1 HI.out.2.1 HI.out.2.2.1 HI.out.2.2.2 rfl (by omega) (.slice A ms.length ct) ms.length (ms.flatMap IM.cells) (by rfl) ((HO3.out.alloc _).drew) ⟨W3.heap.size, 0, none⟩ 1 1 m.cells (by rfl) (by rfl) (World.news_of_block (cs := m.cells.toArray) (t := 37) (fr := (0, 0)) (heap_alloc_new W3 _)) (IM.one m) (by omega) hn1 hn2 (by simp; omega) (W3.heap.size + 1) (by simp) ?_; intro g cap w4 hown4 hgrow hat hlt4; have hk4 : ∀ j, j < W3.heap.size → (Value.slice A ms.length ct).ownBlock ≠ some j → w4.heap[j]? = W3.heap[j]? := fun j hj hn => ((hgrow.block j (by simp; omega) (Ne.symm hn)).trans (heap_alloc_old W3 _ hj)); have k2 := (World.cell?_of_block (a := ⟨R, 1, none⟩) (hk4 _ lR nR)).trans cR; have k3 := (World.frozen?_of_block (a := ⟨R, 1, none⟩) (hk4 _ lR nR)).trans fR))
  all_goals
    have g1 : w4.heap[w.heap.size]? = _ := (hk4 _ lF nF).trans HH.out.2.2.1.f
    have j0 : w4.cell? ⟨w.heap.size, 0, none⟩ = some (.int .i64 0) := by rw [cell_of_row _ _ _ _ _ _ g1]; rfl
    have j1 : w4.cell? ⟨w.heap.size, 1, none⟩ = some (.int .i64 0) := by rw [cell_of_row _ _ _ _ _ _ g1]; rfl
    have j2 : w4.frozen? ⟨w.heap.size, 0, none⟩ = false := frozen_of_row _ _ _ _ _ g1
    have j3 : w4.frozen? ⟨w.heap.size, 1, none⟩ = false := frozen_of_row _ _ _ _ _ g1
    have l5 : ¬ R = w.heap.size := by omega
    have l6 : ¬ w.heap.size = R := by omega
    have hfin := Lib.hid (item_close (pre := [t]) (us := ts) HS.out m HH.out.1 HH.out.2.1 hgrow hown4 hat hz3 rfl (by simp) HC.out (by simp) HH.out.2.2.2.2)
    clear g1 hgrow hown4 hat hk4
    go_wp2
    exact bodyPost_ret (v := .tuple #[.bool true, .agg #[.int .i64 0, .int .i64 0]]) (by simp [results, Tryz.results75, go_sem, j0, j1]) rfl ⟨rfl, _, _, m, _, hfin.out.1, HH.out.2.2.2.1, hfin.out.2⟩
end Go.Proofs.YtbapgdhcbfpdoaaGreatDoor
/- Contract of the reader: operand, numbers. Written by gen_yc.py. -/
namespace Go.Proofs.YtbapgdhcbfpdoaaGreatDoor
open Go.RowKit
attribute [local go_sem ↓] Go.wp_at_zero Go.wp_at_succ
theorem infoN : (Tryz.prog.info? 2).map (fun i => (i.zero, i.size, i.bytes)) = some (some (.int .i64 0), 1, 8) := by kernel_rfl
theorem below_drew (w : World) : Below w.heap.size w w.drew := ⟨rfl, rfl, rfl, Nat.le_refl _, fun _ _ => rfl⟩
theorem RS.far {w w' : World} {R b o c : Nat} {k : Int} {ts pre us : List Tk} {ms : List IM} {tm : List (Option TE)} {vi vt : Value} (h : RS w R b o c k ts ms tm vi vt) (F : Fr (fun j => j = R) w w') {o' c' : Nat} (hR : w'.heap[R]? = some (.cells #[.slice (some ⟨b, o', none⟩) us.length c', vi, vt, .int .i64 k] 121 (0, 0))) (hts : ts = pre ++ us) (ho : o' = o + pre.length * 4) (hc : us.length ≤ c') : RS w' R b o' c' k us ms tm vi vt := by
  have hb := h.bnd
  rw [hts, List.length_append] at hb
  exact h.next (F.weak fun i _ hi => .inl hi) (NR.refl _ _) (NR.refl _ _) hR hc hts ho (rowR h.own F) (rowR h.owt F) (fun m hm => .inl hm) (fun e he => .inl he) (by omega)
abbrev ow1 (w : World) (t : Tk) : World := ((w.alloc (.cells #[.int .i64 0, .int .i64 0] 41)).alloc (.cells #[.int .i64 t.k, .int .i64 t.a, .string (bs t.w), .int .i64 t.n] 56)).alloc (.cells #[.int .i64 1, .int .i64 t.a, .int .u8 0, .string ⟨#[]⟩, .slice none 0 0] 37)
theorem ow1_ox {w : World} {R : Nat} {t : Tk} (hR : R < w.heap.size) : Ox (ow1 w t) R w.heap.size t #[.int .i64 1, .int .i64 t.a, .int .u8 0, .string ⟨#[]⟩, .slice none 0 0] := by
  have h := box3 w (.cells #[.int .i64 0, .int .i64 0] 41) (.cells #[.int .i64 t.k, .int .i64 t.a, .string (bs t.w), .int .i64 t.n] 56) (.cells #[.int .i64 1, .int .i64 t.a, .int .u8 0, .string ⟨#[]⟩, .slice none 0 0] 37)
  exact ⟨h.1, h.2.1, h.2.2, by simp, hR⟩
def nints (ns : List Int) : List Value := ns.map fun x => Value.int .i64 x
/-- What the loop over numbers holds. -/
structure NI (w : World) (R b o : Nat) (k : Int) (t : Tk) (ts : List Tk) (vi vt : Value) (pre us : List Tk) (c' : Nat) (A : Option Addr) (cn : Nat) (wx : World) : Prop where
  F : Fr (fun j => j = R) w wx
  hR : wx.heap[R]? = some (.cells #[.slice (some ⟨b, o + pre.length * 4, none⟩) us.length c', vi, vt, .int .i64 k] 121 (0, 0))
  ox : Ox wx R w.heap.size t #[.int .i64 1, .int .i64 t.a, .int .u8 0, .string ⟨#[]⟩, .slice A pre.length cn]
  row : wx.ownsRow (w.heap.size + 3) 2 1 (.slice A pre.length cn) pre.length (nints (pre.map (·.n)))
  hts : t :: ts = pre ++ us
  hc : us.length ≤ c'
  hn : ∀ x ∈ pre, isNum x = true
  hz : w.heap.size + 3 ≤ wx.heap.size
theorem NI.split {w wx : World} {R b o : Nat} {k : Int} {t : Tk} {ts pre us : List Tk} {vi vt : Value} {c' : Nat} {A : Option Addr} {cn : Nat} (h : NI w R b o k t ts vi vt pre us c' A cn wx) (hk : t.k = 2) : pastNums ts = pastNums us ∧ (∀ u r, us = u :: r → isNum u = false → t.n :: numsOf ts = pre.map (·.n) ∧ us = pastNums ts ∧ 0 < pre.length) := by
  have e := h.hts
  have ht : isNum t = true := by simp [isNum, hk]
  have key : ∀ (l pre us : List Tk), l = pre ++ us → (∀ x ∈ pre, isNum x = true) → pastNums l = pastNums us ∧ (∀ u r, us = u :: r → isNum u = false → numsOf l = pre.map (·.n) ∧ us = pastNums l) := by
    intro l pre us e hn
    subst e
    induction pre with
    | nil =>
      refine ⟨rfl, fun u r hu hf => ?_⟩
      subst hu
      simp [numsOf, pastNums, hf]
    | cons x pre ih =>
      have hx := hn x (by simp)
      have ih := ih (fun y hy => hn y (by simp [hy]))
      have e1 : pastNums (x :: pre ++ us) = pastNums (pre ++ us) := by simp [pastNums, hx]
      refine ⟨e1.trans ih.1, fun u r hu hf => ?_⟩
      have := ih.2 u r hu hf
      refine ⟨?_, by rw [e1]; exact this.2⟩
      have h2 := this.1
      simp only [numsOf] at h2
      simp only [numsOf, List.cons_append, List.takeWhile_cons, hx, if_true, List.map_cons, h2]
  have h1 := key _ _ _ e h.hn
  have e1 : pastNums (t :: ts) = pastNums ts := by simp [pastNums, ht]
  have e2 : numsOf (t :: ts) = t.n :: numsOf ts := by simp [numsOf, ht]
  refine ⟨e1.symm.trans h1.1, fun u r hu hf => ?_⟩
  have h2 := h1.2 u r hu hf
  refine ⟨e2.symm.trans h2.1, h2.2.trans e1, ?_⟩
  cases pre with
  | nil =>
    simp only [List.nil_append] at e
    rw [hu] at e
    injection e with e _
    rw [e] at ht; rw [ht] at hf; cases hf
  | cons x pre => simp
theorem NI.nums {w wx : World} {R b o : Nat} {k : Int} {t : Tk} {ts pre us : List Tk} {vi vt : Value} {c' : Nat} {A : Option Addr} {cn : Nat} (h : NI w R b o k t ts vi vt pre us c' A cn wx) : RdN wx (fun j => w.heap.size < j ∧ j < wx.heap.size) A (pre.map (·.n)) := by
  intro hl
  rw [List.length_map] at hl
  obtain ⟨g, cap, e, hg1, hg2⟩ := h.row.form hl
  injection e with e1 e2 e3
  subst e1
  subst e3
  obtain ⟨cur, hcur⟩ : ∃ cur, wx.heap[g]? = some (.cells cur 2 (0, 0)) := by
    rcases h.row.2 with ⟨h1, _⟩ | ⟨g', cap', cur, h1, _, hh, _⟩
    · simp at h1
    · injection h1 with h1; injection h1 with h1; injection h1 with h1; subst h1; exact ⟨cur, hh⟩
  refine ⟨g, 0, rfl, ⟨⟨by omega, hg2⟩, cur, (0, 0), hcur⟩, fun i hi => ?_⟩
  rw [List.length_map] at hi
  rw [Nat.zero_add, World.ownsRow.cellAt h.row i (by omega)]
  unfold nints
  rw [List.getElem?_map, List.getD_eq_getElem?_getD]
  have : i < (pre.map (·.n)).length := by simpa using hi
  rw [List.getElem?_eq_getElem this]
  rfl
theorem NI.step {w wx : World} {R b o : Nat} {k : Int} {t : Tk} {ts pre us : List Tk} {u : Tk} {ms : List IM} {tm : List (Option TE)} {vi vt : Value} {c' : Nat} {A : Option Addr} {cn : Nat} (h : NI w R b o k t ts vi vt pre (u :: us) c' A cn wx) (hu : isNum u = true) (hRw : R < w.heap.size) {w2 w4 : World} {x : Obj} {g cap : Nat} (f2 : Fr (fun j => j = R) wx w2) (hs2 : RS w2 R b (o + pre.length * 4 + 4) (c' - 1) k us ms tm vi vt)
    (hgrow : (w2.alloc x).grownBy w4 (Value.slice A pre.length cn).ownBlock) (hown : w4.ownsRow (w.heap.size + 3) 2 1 (.slice (some ⟨g, 0, none⟩) (pre.length + 1) cap) (pre.length + 1) (nints (pre.map (·.n)) ++ [.int .i64 u.n])) 
    : NI w R b o k t ts vi vt (pre ++ [u]) us (c' - 1) (some ⟨g, 0, none⟩) cap (w4.setCell ⟨w.heap.size + 1 + 1, 4, none⟩ (.slice (some ⟨g, 0, none⟩) (pre.length + 1) cap)) := by
  have hb0 : ∀ j, (Value.slice A pre.length cn).ownBlock = some j → w.heap.size + 3 ≤ j := fun j hj => (row_base h.row hj).1
  have hz1 := f2.size
  have hz := hgrow.size
  have hz : w2.heap.size + 1 ≤ w4.heap.size := by simpa using hz
  have h0 := h.hz
  have hk4 : ∀ j, j < w.heap.size + 3 → j < w2.heap.size → w4.heap[j]? = w2.heap[j]? := fun j hj hl => ((hgrow.block j (by simp; omega) (fun e => by have := hb0 _ e.symm; omega)).trans (heap_alloc_old w2 _ hl))
  have hg := (row_base hown (k := g) rfl)
  have F4 : Fr (fun j => j = R) w w4 := (((h.F.trans f2).alloc x).trans' (Fr.grown hgrow (fun j => (Value.slice A pre.length cn).ownBlock = some j) fun j hj => hj) fun j hj => .inr (by have := hb0 j hj; omega))
  have F5 := F4.set (b := w.heap.size + 1 + 1) (.inr (by omega)) 4 (.slice (some ⟨g, 0, none⟩) (pre.length + 1) cap)
  have ox := h.ox.fr f2
  have l := h.ox.l
  refine ⟨F5, ?_, ⟨?_, ?_, ?_, by simp; omega, l.2⟩, ?_, by rw [h.hts]; simp, hs2.cap, ?_, by simp; omega⟩
  · rw [Fr.set.heap_set_other (by omega), hk4 R (by omega) hs2.lt, hs2.blk, List.length_append]; simp only [List.length_cons, List.length_nil]; rw [show o + (pre.length + (0 + 1)) * 4 = o + pre.length * 4 + 4 by omega]
  · rw [Fr.set.heap_set_other (by omega), hk4 _ (by omega) (by omega)]; exact ox.f
  · rw [Fr.set.heap_set_other (by omega), hk4 _ (by omega) (by omega)]; exact ox.s
  · rw [heap_setCell_same _ _ _ _ _ _ ((hk4 _ (by omega) (by omega)).trans ox.p), List.length_append]; rfl
  · rw [List.length_append, List.map_append]
    have e : nints (pre.map (·.n) ++ [u].map (·.n)) = nints (pre.map (·.n)) ++ [.int .i64 u.n] := by simp [nints]
    rw [e]
    exact ownsRow_setCell_other (a := ⟨w.heap.size + 1 + 1, 4, none⟩) hown (by simp [Value.ownBlock]; omega) _
  · intro y hy
    rw [List.mem_append] at hy
    rcases hy with hy | hy
    · exact h.hn y hy
    · simp at hy; subst hy; exact hu
set_option maxRecDepth 100000 in
set_option maxHeartbeats 6400000 in
theorem operand_num (w : World) (R b o c : Nat) (k : Int) (t : Tk) (ts : List Tk) (ms : List IM) (tm : List (Option TE)) (vi vt : Value) (h : RS w R b o c k (t :: ts) ms tm vi vt) (hk : t.k = 2) (hne : 0 < (pastNums ts).length) :
    Calls Tryz.prog 75 #[.pointer (some ⟨R, 0, none⟩)] w (OpItem w R b k ⟨1, t.a, 0, [], t.n :: numsOf ts⟩ (pastNums ts) ms tm vi vt) := by
  obtain ⟨i0, hi, hz0, hz1, hz2⟩ := info_parts infoI
  have HI := Lib.hid (And.intro hi (And.intro hz0 (And.intro hz1 hz2)))
  clear hi hz0 hz1 hz2
  obtain ⟨i1, hi, hz0, hz1, hz2⟩ := info_parts infoN
  have HI1 := Lib.hid (And.intro hi (And.intro hz0 (And.intro hz1 hz2)))
  clear hi hz0 hz1 hz2
  obtain ⟨c0, c1, c2, c3, f0⟩ := h.cells
  have hlt := h.lt
  obtain ⟨t0, t1, t2, t3⟩ := h.head
  have hb := h.sb.1
  have hcap := h.cap
  have hbnd := h.bnd
  simp only [List.length_cons] at c0 hcap hbnd
  have HS := Lib.hid h
  clear h f0
  obtain ⟨A, ct, rfl, hct⟩ := row_shape HS.out.own
  have nR : (Value.slice A ms.length ct).ownBlock ≠ some R := fun h => by have := (row_base HS.out.own h).1; omega
  have nF : (Value.slice A ms.length ct).ownBlock ≠ some w.heap.size := fun h => by have := (row_base HS.out.own h).2; omega
  have hn1 : ms.length + 1 ≤ maxLen := by unfold maxLen; omega
  have hn2 : (ms.length + 1) * 64 ≤ 140737488355328 := by omega
  obtain ⟨tk, ta, tw, tn⟩ := t
  obtain rfl : tk = 2 := hk
  have HNI := Lib.hid (show NI w R b o k ⟨2, ta, tw, tn⟩ ts (.slice A ms.length ct) vt [] (⟨2, ta, tw, tn⟩ :: ts) c none 0 (ow1 w ⟨2, ta, tw, tn⟩) from
    ⟨((Fr.refl (fun j => j = R) w).alloc _).alloc _ |>.alloc _, (((HS.out.alloc _).alloc _).alloc _).blk, ow1_ox hlt, World.ownsRow_nil _ _ _ _, rfl, HS.out.cap, by simp, by simp [ow1]⟩)
  go_enter Tryz.func75, Tryz.ntmps75
  go_wp2
  obtain ⟨W0, hW0⟩ : ∃ W, W = ((w.alloc (.cells #[.int .i64 0, .int .i64 0] 41)).alloc (.cells #[.int .i64 2, .int .i64 ta, .string (bs tw), .int .i64 tn] 56)).alloc (.cells #[.int .i64 1, .int .i64 ta, .int .u8 0, .string ⟨#[]⟩, .slice none 0 0] 37) := ⟨_, rfl⟩
  rw [← hW0]
  replace HNI : Hid (NI w R b o k ⟨2, ta, tw, tn⟩ ts (.slice A ms.length ct) vt [] (⟨2, ta, tw, tn⟩ :: ts) c none 0 W0) := by rw [hW0]; exact HNI
  clear hW0
  go_loopg [22] (ts.length + 1) (fun g s22 wx => ∃ pre us c' An cn, us.length = g ∧ Hid (NI w R b o k ⟨2, ta, tw, tn⟩ ts (.slice A ms.length ct) vt pre us c' An cn wx))
  case atStart => exact ⟨[], _, c, none, 0, rfl, HNI⟩
  case round =>
    obtain ⟨pre, us, c', An, cn, hg, HI2⟩ := hrel
    have hsp := HI2.out.split rfl
    cases us with
    | nil => exfalso; rw [hsp.1] at hne; simp [pastNums] at hne
    | cons u us =>
      have hrs := HS.out.far HI2.out.F HI2.out.hR HI2.out.hts rfl HI2.out.hc
      have hox := HI2.out.ox
      obtain ⟨⟨a1, b1, fa1, fb1⟩, ⟨s10, s11, s12, s13⟩⟩ := hox.fcells
      obtain ⟨p10, p11, p12, p13, p14, fp10, fp13, fp14⟩ := hox.pcells
      obtain ⟨d0, d1, d2, d3, df⟩ := hrs.cells
      have df0 := df 0
      have df1 := df 1
      obtain ⟨u0, u1, u2, u3⟩ := hrs.head
      have ub := hrs.sb.1
      have l1 := hox.l
      have l2 := hrs.lt
      have hz := HI2.out.hz
      have hlu := congrArg List.length HI2.out.hts
      simp only [List.length_cons, List.length_append] at hlu d0
      have hpl : pre.length ≤ 1000000 := by omega
      clear hlu
      have hcu := HI2.out.hc
      simp only [List.length_cons] at hcu
      obtain rfl : gk = us.length + 1 := by simpa using hg.symm
      have HR := Lib.hid hrs
      clear df hrs hox hg
      by_cases hu : u.k = 2
      · have hu2 : (u.k == 2) = true := by simpa using hu
        have hun : isNum u = true := by simp [isNum, hu]
        have hus : 0 < us.length := by
          cases us with
          | nil => exfalso; rw [hsp.1] at hne; simp [pastNums, hun] at hne
          | cons _ _ => simp
        obtain ⟨uk, ua, uw, un⟩ := u
        obtain rfl : uk = 2 := hu
        have hfn := fun w => fieldN ⟨2, ua, uw, un⟩ w
        have h63 : pre.length + 1 ≤ maxLen := by unfold maxLen; omega
        have h8 : (pre.length + 1) * 8 ≤ 140737488355328 := by omega
        have nP : (Value.slice An pre.length cn).ownBlock ≠ some (w.heap.size + 1 + 1) := fun h => by have := (row_base HI2.out.row h).1; omega
        have HU := Lib.hid hun
        clear hsp hun hu2
        go_wp2
        go_region_law ((first | (go_simp; go_at_call 77; (refine (take_any _ R b (o + pre.length * 4) c' k ⟨2, ua, uw, un⟩ us ms tm (.slice A ms.length ct) vt (HR.out.keep (below_drew _)) hus).mono ?_; rintro e w2 ⟨rfl, hs2, f2⟩; have hx2 := (HI2.out.ox.below (below_drew _)).fr f2; obtain ⟨p20, p21, p22, p23, p24, fp20, fp23, fp24⟩ := hx2.pcells; have lx2 := hx2.l; have HX2 := Lib.hid (And.intro f2 (And.intro hs2 (And.intro hx2 (row_keep (w := wr.drew) (w' := w2) (HI2.out.row.drew) (fun j hj hl => f2.block j hl (fun e => by have := (row_base HI2.out.row hj).1; omega)) (Nat.le_refl _))))); clear hs2 f2 hx2)) | (refine step_append_lies _ (by rfl) _ _ _ (by rfl) (w.heap.size + 3) 2 i1 _ 1 8 Tryz.underlying35 HI1.out.1 HI1.out.2.1 HI1.out.2.2.1 HI1.out.2.2.2 rfl (by omega) (.slice An pre.length cn) pre.length (nints (pre.map (·.n))) (by rfl) (HX2.out.2.2.2.alloc _) ⟨w2.heap.size, 0, none⟩ 1 1 [.int .i64 un] (by rfl) (by rfl) (World.news_of_block (cs := #[.int .i64 un]) (t := 2) (fr := (0, 0)) (heap_alloc_new w2 _)) (by intro u hu; simp at hu; subst hu; rfl) (by omega) h63 h8 (by simp; omega) (w2.heap.size + 1) (by simp) ?_; intro g cap w4 hown4 hgrow hat hlt4; have hP4 := ((hgrow.block (w.heap.size + 1 + 1) (by simp; omega) (Ne.symm nP)).trans (heap_alloc_old w2 _ (by omega))).trans HX2.out.2.2.1.p; have k4 : w4.cell? ⟨w.heap.size + 1 + 1, 4, none⟩ = some (.slice An pre.length cn) := (by rw [cell_of_row _ _ _ _ _ _ hP4]; rfl); have k5 : w4.frozen? ⟨w.heap.size + 1 + 1, 4, none⟩ = false := frozen_of_row _ _ _ _ _ hP4)))
        all_goals
          have HN := Lib.hid (HI2.out.step HU.out hlt ((Fr.refl _ _).trans (Fr.trans (below_fr (below_drew _) _) HX2.out.1)) HX2.out.2.1 hgrow hown4)
          clear hgrow hown4 hat hP4
          go_wp2
          go_roundg us.length
          case measure => omega
          case rel => exact ⟨pre ++ [⟨2, ua, uw, un⟩], us, c' - 1, _, cap, rfl, HN⟩
      · have hu2 : (u.k == 2) = false := by simpa using hu
        have hf : isNum u = false := by simp [isNum, hu]
        obtain ⟨e1, e2, e3⟩ := hsp.2 u us rfl hf
        have HE := Lib.hid (And.intro e1 (And.intro e2 e3))
        clear hsp e1 e2 e3 hf
        go_wp2
        obtain ⟨W3, hW3⟩ : ∃ W, W = wr := ⟨_, rfl⟩
        rw [← hW3]
        obtain ⟨m, hm⟩ : ∃ m : IM, m = ⟨⟨1, ta, 0, [], pre.map (·.n)⟩, An, cn⟩ := ⟨_, rfl⟩
        have F3 : Fr (fun j => j = R) w W3 := by
          rw [hW3]
          exact HI2.out.F
        have hx3 : Ox W3 R w.heap.size ⟨2, ta, tw, tn⟩ m.cells.toArray := by rw [hW3, hm]; exact (by have h := HI2.out.ox; rw [str_nil] at h; simpa [IM.cells] using h)
        have hR3 : W3.heap[R]? = some (.cells #[.slice (some ⟨b, o + pre.length * 4, none⟩) (u :: us).length c', .slice A ms.length ct, vt, .int .i64 k] 121 (0, 0)) := by
          rw [hW3]; exact HI2.out.hR
        have hz3 : w.heap.size + 3 ≤ W3.heap.size := by have := hx3.l; omega
        have hP := hx3.p
        rw [hm] at hP
        have p30 : W3.cell? ⟨w.heap.size + 1 + 1, 0, none⟩ = some (.int .i64 m.it.how) := by rw [cell_of_row _ _ _ _ _ _ hP, hm]; rfl
        have p31 : W3.cell? ⟨w.heap.size + 1 + 1, 1, none⟩ = some (.int .i64 m.it.pl) := by rw [cell_of_row _ _ _ _ _ _ hP, hm]; rfl
        have p32 : W3.cell? ⟨w.heap.size + 1 + 1, 2, none⟩ = some (.int .u8 m.it.fn) := by rw [cell_of_row _ _ _ _ _ _ hP, hm]; rfl
        have p33 : W3.cell? ⟨w.heap.size + 1 + 1, 3, none⟩ = some (.string (bs m.it.nm)) := by rw [cell_of_row _ _ _ _ _ _ hP, hm]; rfl
        have p34 : W3.cell? ⟨w.heap.size + 1 + 1, 4, none⟩ = some (.slice m.A m.it.ns.length m.c) := by rw [cell_of_row _ _ _ _ _ _ hP, hm]; rfl
        have HO3 := Lib.hid (rowR HS.out.own F3)
        have cR : W3.cell? ⟨R, 1, none⟩ = some (.slice A ms.length ct) := by rw [cell_of_row _ _ _ _ _ _ hR3]; rfl
        have fR : W3.frozen? ⟨R, 1, none⟩ = false := frozen_of_row _ _ _ _ _ hR3
        have lR : R < W3.heap.size := by omega
        have lF : w.heap.size < W3.heap.size := by omega
        have hmi : m.it = ⟨1, ta, 0, [], pre.map (·.n)⟩ := by rw [hm]
        have hmA : RdN W3 (fun j => w.heap.size < j ∧ j < W3.heap.size) m.A m.it.ns := by rw [hm]; exact (by rw [hW3]; exact NI.nums HI2.out)
        have HH := Lib.hid (And.intro F3 (And.intro hR3 (And.intro hx3 (And.intro hmi hmA))))
        have HC := Lib.hid HI2.out.hc
        clear F3 hR3 hx3 hP hmi hmA hW3 hm 
        go_region_law ((refine step_append_lies _ (by rfl) _ _ _ (by rfl) (R + 1) 37 i0 _ 5 64 Tryz.underlying31 HI.out.1 HI.out.2.1 HI.out.2.2.1 HI.out.2.2.2 rfl (by omega) (.slice A ms.length ct) ms.length (ms.flatMap IM.cells) (by rfl) ((HO3.out.alloc _).drew) ⟨W3.heap.size, 0, none⟩ 1 1 m.cells (by rfl) (by rfl) (World.news_of_block (cs := m.cells.toArray) (t := 37) (fr := (0, 0)) (heap_alloc_new W3 _)) (IM.one m) (by omega) hn1 hn2 (by simp; omega) (W3.heap.size + 1) (by simp) ?_; intro g cap w4 hown4 hgrow hat hlt4; have hk4 : ∀ j, j < W3.heap.size → (Value.slice A ms.length ct).ownBlock ≠ some j → w4.heap[j]? = W3.heap[j]? := fun j hj hn => ((hgrow.block j (by simp; omega) (Ne.symm hn)).trans (heap_alloc_old W3 _ hj)); have k2 := (World.cell?_of_block (a := ⟨R, 1, none⟩) (hk4 _ lR nR)).trans cR; have k3 := (World.frozen?_of_block (a := ⟨R, 1, none⟩) (hk4 _ lR nR)).trans fR))
        all_goals
          have g1 : w4.heap[w.heap.size]? = _ := (hk4 _ lF nF).trans HH.out.2.2.1.f
          have j0 : w4.cell? ⟨w.heap.size, 0, none⟩ = some (.int .i64 0) := by rw [cell_of_row _ _ _ _ _ _ g1]; rfl
          have j1 : w4.cell? ⟨w.heap.size, 1, none⟩ = some (.int .i64 0) := by rw [cell_of_row _ _ _ _ _ _ g1]; rfl
          have j2 : w4.frozen? ⟨w.heap.size, 0, none⟩ = false := frozen_of_row _ _ _ _ _ g1
          have j3 : w4.frozen? ⟨w.heap.size, 1, none⟩ = false := frozen_of_row _ _ _ _ _ g1
          have l5 : ¬ R = w.heap.size := by omega
          have l6 : ¬ w.heap.size = R := by omega
          have hfin := Lib.hid (item_close (pre := pre) (us := (u :: us)) HS.out m HH.out.1 HH.out.2.1 hgrow hown4 hat hz3 HI2.out.hts rfl HC.out HE.out.2.2 HH.out.2.2.2.2)
          clear g1 hgrow hown4 hat hk4
          go_wp2
          exact bodyPost_ret (v := .tuple #[.bool true, .agg #[.int .i64 0, .int .i64 0]]) (by simp [results, Tryz.results75, go_sem, j0, j1]) rfl ⟨rfl, _, _, m, _, HE.out.2.1 ▸ hfin.out.1, (by rw [HH.out.2.2.2.1, HE.out.1]), hfin.out.2⟩
end Go.Proofs.YtbapgdhcbfpdoaaGreatDoor
