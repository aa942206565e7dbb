/- Contract of the reader: phrase, one of its ways. Written by gen_u.py. -/
import Derived.Test.YtbapgdhcbfpdoaaGreatDoorZPb
namespace Go.Proofs.YtbapgdhcbfpdoaaGreatDoor
open Go.RowKit
attribute [local go_sem ↓] Go.wp_at_zero Go.wp_at_succ
set_option maxRecDepth 100000 in
set_option maxHeartbeats 3200000 in
theorem phrase_fold (w : World) (R b o c : Nat) (k : Int) (t u : Tk) (ts : List Tk) (ms : List IM) (tm : List (Option TE)) (vi vt : Value) (h : RS w R b o c k (t :: u :: ts) ms tm vi vt) (hL : LaidR w R) (us : List Tk) (hm : mk (u :: ts) = ([47], us)) (hne : 0 < us.length) :
    Calls Tryz.prog 74 #[.pointer (some ⟨R, 0, none⟩), .bool false] w (Phr w R b k t (5, betw t.w) us ms tm vi vt) := by
  obtain ⟨i0, hi, hz0, hz1, hz2⟩ := info_parts infoFn
  have HI := Lib.hid (And.intro hi (And.intro hz0 (And.intro hz1 hz2)))
  clear hi hz0 hz1 hz2
  obtain ⟨A, ct, rfl, hct⟩ := row_shape h.owt
  have hbn := h.bnd
  simp only [List.length_cons] at hbn
  have HS := Lib.hid h
  clear h
  have x0 : ((bs [47]).toList == [47]) = true := cmpYes rfl
  have x1 : ((bs [47]).toList == [92]) = false := cmpNo (by decide)
  have x2 : ((bs [47]).toList == [46]) = false := cmpNo (by decide)
  have x3 : ((bs [47]).toList == []) = false := cmpNo (by decide)
  have hfw := fun w => fieldW t w
  have hR := HS.out.lt
  have hne2 : 0 < (mk (u :: ts)).2.length := by rw [hm]; exact hne
  obtain ⟨f, hf⟩ : ∃ f, f = betw t.w := ⟨_, rfl⟩
  have hbt := fun w hV => between_any (bs t.w) w hV
  rw [bs_list, ← hf] at hbt
  rw [← hf]
  clear hf
  by_cases hz : f = 0
  · subst hz
    go_enter Tryz.func74, Tryz.ntmps74
    go_wp2_with (first
      | (go_at_call 77; refine (take_any _ R b o c k t (u :: ts) ms tm vi _ ((HS.out.alloc _).alloc _) (by simp)).mono ?_; rintro e w1 ⟨rfl, hs1, f1⟩; have hz1 := f1.size; rw [size2] at hz1; have hx1 := Fx.make (t := t) hR f1; have q1 := Fx.q1 hR f1; have n1 : w.heap.size < w1.heap.size := (by omega); have n2 : w.heap.size < w1.heap.size + 1 := (by omega); have n3 : w.heap.size + 1 < w1.heap.size := (by omega); have n4 : w.heap.size + 1 < w1.heap.size + 1 := (by omega); have HX1 := Lib.hid (And.intro hs1 (And.intro f1 hx1)); clear hs1 f1 hx1)
      | (go_at_call 95; refine (mark_any _ R b (o + 4) (c - 1) k u ts ms tm vi _ ((HX1.out.1.alloc _).alloc _) hne2 [47] us hm).mono ?_; rintro e w2 ⟨rfl, o2, c2, pre, hpre, ho2, hs2, f2⟩; have hx2 := HX1.out.2.2.fr f2; have hL2 := (((hL.below (up _)).below (up _)).frR HX1.out.2.1); have hL3 := Lib.hid (((hL2.below (up _)).below (up _)).frR f2); clear hL2; obtain ⟨q2, ⟨a2, b2, fa2, fb2⟩, ⟨s20, s21, s22, s23⟩, ⟨p20, p21, p22, p23, p24⟩, fp20, fp22⟩ := hx2.cells; have l2 := hx2.l; have HX2 := Lib.hid (And.intro hs2 (And.intro f2 (And.intro hx2 (And.intro hpre ho2)))); clear hs2 f2 hx2 hpre ho2)
      | (go_at_call 96; refine (hbt _ hL3.out.laid.2).mono ?_; rintro e w3 ⟨rfl, g3⟩; have hx3 := HX2.out.2.2.1.gr g3; obtain ⟨q3, ⟨a3, b3, fa3, fb3⟩, ⟨s30, s31, s32, s33⟩, ⟨p30, p31, p32, p33, p34⟩, fp30, fp32⟩ := hx3.cells; have l3 := hx3.l; have HX3 := Lib.hid (And.intro g3 hx3); clear g3 hx3)
      | (go_at_call 22; refine (fault_any t 43 _).mono ?_; rintro e w5 ⟨rfl, g5⟩; have h5 := (g5.below.block (w.heap.size + 1) (by first | omega | (simp; omega))).trans ((Fr.set.heap_set_other (o := 2) (v := .int .u8 0) (by omega : ¬ w.heap.size + 1 = w1.heap.size + 1)).trans ((Fr.set.heap_set_other (o := 0) (v := .int .i64 5) (by omega : ¬ w.heap.size + 1 = w1.heap.size + 1)).trans HX3.out.2.f)); have j0 : w5.cell? ⟨w.heap.size + 1, 0, none⟩ = some (.int .i64 0) := (by rw [cell_of_row _ _ _ _ _ _ h5]; rfl); have j1 : w5.cell? ⟨w.heap.size + 1, 1, none⟩ = some (.int .i64 0) := (by rw [cell_of_row _ _ _ _ _ _ h5]; rfl); have j2 := frozen_of_row _ _ 0 _ _ h5; have j3 := frozen_of_row _ _ 1 _ _ h5; clear h5; have G5 := Lib.hid g5; clear g5))
    exact bodyPost_ret (v := .agg #[.int .i64 t.a, .int .i64 43]) (by simp [results, Tryz.results74, go_sem, j0, j1]) rfl (.inl ⟨rfl, rfl, Fr.weak (((((((((((((Fr.refl (fun j => j = R) w).alloc _).alloc _).trans HX1.out.2.1).alloc _).alloc _).trans HX2.out.2.1).gr HX3.out.1).set (b := w1.heap.size + 1) (.inr (by omega)) 0 (.int .i64 5)).set (b := w1.heap.size + 1) (.inr (by omega)) 2 (.int .u8 0)).gr G5.out).set (b := w.heap.size + 1) (.inr (by omega)) 0 (.int .i64 t.a)).set (b := w.heap.size + 1) (.inr (by omega)) 1 (.int .i64 43)) fun _ _ hi => .inl hi⟩)
  go_enter Tryz.func74, Tryz.ntmps74
  go_wp2_with (first
    | (go_at_call 77; refine (take_any _ R b o c k t (u :: ts) ms tm vi _ ((HS.out.alloc _).alloc _) (by simp)).mono ?_; rintro e w1 ⟨rfl, hs1, f1⟩; have hz1 := f1.size; rw [size2] at hz1; have hx1 := Fx.make (t := t) hR f1; have q1 := Fx.q1 hR f1; have n1 : w.heap.size < w1.heap.size := (by omega); have n2 : w.heap.size < w1.heap.size + 1 := (by omega); have n3 : w.heap.size + 1 < w1.heap.size := (by omega); have n4 : w.heap.size + 1 < w1.heap.size + 1 := (by omega); have HX1 := Lib.hid (And.intro hs1 (And.intro f1 hx1)); clear hs1 f1 hx1)
    | (go_at_call 95; refine (mark_any _ R b (o + 4) (c - 1) k u ts ms tm vi _ ((HX1.out.1.alloc _).alloc _) hne2 [47] us hm).mono ?_; rintro e w2 ⟨rfl, o2, c2, pre, hpre, ho2, hs2, f2⟩; have hx2 := HX1.out.2.2.fr f2; have hL2 := (((hL.below (up _)).below (up _)).frR HX1.out.2.1); have hL3 := Lib.hid (((hL2.below (up _)).below (up _)).frR f2); clear hL2; obtain ⟨q2, ⟨a2, b2, fa2, fb2⟩, ⟨s20, s21, s22, s23⟩, ⟨p20, p21, p22, p23, p24⟩, fp20, fp22⟩ := hx2.cells; have l2 := hx2.l; have HX2 := Lib.hid (And.intro hs2 (And.intro f2 (And.intro hx2 (And.intro hpre ho2)))); clear hs2 f2 hx2 hpre ho2)
    | (go_at_call 96; refine (hbt _ hL3.out.laid.2).mono ?_; rintro e w3 ⟨rfl, g3⟩; have hx3 := HX2.out.2.2.1.gr g3; obtain ⟨q3, ⟨a3, b3, fa3, fb3⟩, ⟨s30, s31, s32, s33⟩, ⟨p30, p31, p32, p33, p34⟩, fp30, fp32⟩ := hx3.cells; have l3 := hx3.l; have HX3 := Lib.hid (And.intro g3 hx3); clear g3 hx3))
  obtain ⟨W3, hW3⟩ : ∃ W, W = (w3.setCell ⟨w1.heap.size + 1, 0, none⟩ (.int .i64 5)).setCell ⟨w1.heap.size + 1, 2, none⟩ (.int .u8 f) := ⟨_, rfl⟩
  rw [← hW3]
  obtain ⟨E, hE⟩ : ∃ E : TE, E = ⟨⟨⟨5, t.a, f, [], []⟩, none, 0⟩, w.heap.size, w1.heap.size + 1⟩ := ⟨_, rfl⟩
  have F3 : Fr (fun j => j = R) w W3 := by
    rw [hW3]
    exact (((((((((Fr.refl (fun j => j = R) w).alloc _).alloc _).trans HX1.out.2.1).alloc _).alloc _).trans HX2.out.2.1).gr HX3.out.1).set (b := w1.heap.size + 1) (.inr (by omega)) 0 (.int .i64 5)).set (b := w1.heap.size + 1) (.inr (by omega)) 2 (.int .u8 f)
  have hset : ∀ j : Nat, ¬ j = w1.heap.size + 1 → W3.heap[j]? = w3.heap[j]? := fun j hj => by rw [hW3, Fr.set.heap_set_other hj, Fr.set.heap_set_other hj]
  have hR3 : W3.heap[R]? = some (.cells #[.slice (some ⟨b, o2, none⟩) us.length c2, vi, .slice A tm.length ct, .int .i64 k] 121 (0, 0)) := by
    rw [hset R (by omega), HX3.out.1.below.block R (by first | exact HX2.out.1.lt | (simp; exact HX2.out.1.lt))]; exact HX2.out.1.blk
  have hq4 : W3.heap[w.heap.size]? = some (.cells #[.pointer (some ⟨R, 0, none⟩)] 144 (0, 0)) := (hset w.heap.size (by omega)).trans HX3.out.2.q
  have hf4 : W3.heap[w.heap.size + 1]? = _ := (hset (w.heap.size + 1) (by omega)).trans HX3.out.2.f
  have hp4 : W3.heap[w1.heap.size + 1]? = some (.cells E.m.cells.toArray 37 (0, 0)) := by
    rw [hW3, heap_setCell_same _ _ _ _ _ _ (heap_setCell_same _ _ _ _ _ _ HX3.out.2.p), hE]; rfl
  have hz3 : w1.heap.size + 1 < W3.heap.size := by
    rcases Nat.lt_or_ge (w1.heap.size + 1) W3.heap.size with h | h
    · exact h
    · rw [Array.getElem?_eq_none h] at hp4; cases hp4
  have HO3 := Lib.hid (rowR HS.out.owt F3)
  have nR : (Value.slice A tm.length ct).ownBlock ≠ some R := fun h => by have := (row_base HS.out.owt h).1; omega
  have nQ : (Value.slice A tm.length ct).ownBlock ≠ some w.heap.size := fun h => by have := (row_base HS.out.owt h).2; omega
  have nF : (Value.slice A tm.length ct).ownBlock ≠ some (w.heap.size + 1) := fun h => by have := (row_base HS.out.owt h).2; omega
  have cq : W3.cell? ⟨w.heap.size, 0, none⟩ = some (.pointer (some ⟨R, 0, none⟩)) := by rw [cell_of_row _ _ _ _ _ _ hq4]; rfl
  have c3 : W3.cell? ⟨R, 2, none⟩ = some (.slice A tm.length ct) := by rw [cell_of_row _ _ _ _ _ _ hR3]; rfl
  have fz3 : W3.frozen? ⟨R, 2, none⟩ = false := frozen_of_row _ _ _ _ _ hR3
  have lR : R < W3.heap.size := by omega
  have lQ : w.heap.size < W3.heap.size := by omega
  have lF : w.heap.size + 1 < W3.heap.size := by omega
  have hn1 : tm.length + 1 ≤ maxLen := by unfold maxLen; omega
  have hn2 : (tm.length + 1) * 8 ≤ 140737488355328 := by omega
  have HEV := Lib.hid (show .func (.func 97) #[] #[.pointer (some ⟨w.heap.size, 0, none⟩), .pointer (some ⟨w1.heap.size + 1, 0, none⟩)] = tval (some E) by rw [hE]; rfl)
  have hEP : E.P = w1.heap.size + 1 := by rw [hE]
  have hEQ : E.Q = w.heap.size := by rw [hE]
  have hEI : E.m.it = ⟨5, t.a, f, [], []⟩ := by rw [hE]
  have HH := Lib.hid (And.intro F3 (And.intro hR3 (And.intro (hEQ ▸ hq4) (And.intro hf4 (And.intro (hEP ▸ hp4) (And.intro hEP (And.intro hEQ hEI)))))))
  have HC := Lib.hid HX2.out.1.cap
  clear F3 hset hR3 hq4 hf4 hp4 hW3 hE hEP hEQ hEI q2 a2 b2 fa2 fb2 s20 s21 s22 s23 p20 p21 p22 p23 p24 fp20 fp22 q3 a3 b3 fa3 fb3 s30 s31 s32 s33 p30 p31 p32 p33 p34 fp30 fp32 q1 x0 x1 x2 x3 hfw hbt
  go_region_law ((refine step_append_lies _ (by rfl) _ _ _ (by rfl) (R + 1) 1 i0 _ 1 8 Tryz.underlying119 HI.out.1 HI.out.2.1 HI.out.2.2.1 HI.out.2.2.2 rfl (by omega) (.slice A tm.length ct) tm.length (tm.reverse.map tval) (by rfl) ((HO3.out.alloc _).drew) ⟨W3.heap.size, 0, none⟩ 1 1 [.func (.func 97) #[] #[.pointer (some ⟨w.heap.size, 0, none⟩), .pointer (some ⟨w1.heap.size + 1, 0, none⟩)]] (by rfl) (by rfl) (World.news_of_block (cs := #[.func (.func 97) #[] #[.pointer (some ⟨w.heap.size, 0, none⟩), .pointer (some ⟨w1.heap.size + 1, 0, none⟩)]]) (t := 1) (fr := (0, 0)) (heap_alloc_new W3 _)) (by intro u hu; simp at hu; subst hu; rfl) (by omega) hn1 hn2 (by simp; omega) (W3.heap.size + 1) (by simp) ?_; intro g cap w4 hown4 hgrow hat hlt4; have hk4 : ∀ j, j < W3.heap.size → (Value.slice A tm.length ct).ownBlock ≠ some j → w4.heap[j]? = W3.heap[j]? := fun j hj hn => ((hgrow.block j (by simp; omega) (Ne.symm hn)).trans (heap_alloc_old W3 _ hj)); have k1 := (World.cell?_of_block (a := ⟨w.heap.size, 0, none⟩) (hk4 _ lQ nQ)).trans cq; have k2 := (World.cell?_of_block (a := ⟨R, 2, none⟩) (hk4 _ lR nR)).trans c3; have k3 := (World.frozen?_of_block (a := ⟨R, 2, none⟩) (hk4 _ lR nR)).trans fz3))
  all_goals
    have g1 : w4.heap[w.heap.size + 1]? = _ := (hk4 _ lF nF).trans HH.out.2.2.2.1
    have j0 : w4.cell? ⟨w.heap.size + 1, 0, none⟩ = some (.int .i64 0) := by rw [cell_of_row _ _ _ _ _ _ g1]; rfl
    have j1 : w4.cell? ⟨w.heap.size + 1, 1, none⟩ = some (.int .i64 0) := by rw [cell_of_row _ _ _ _ _ _ g1]; rfl
    have j2 : w4.frozen? ⟨w.heap.size + 1, 0, none⟩ = false := frozen_of_row _ _ _ _ _ g1
    have j3 : w4.frozen? ⟨w.heap.size + 1, 1, none⟩ = false := frozen_of_row _ _ _ _ _ g1
    have l5 : ¬ R = w.heap.size + 1 := by omega
    have l6 : ¬ w.heap.size + 1 = R := by omega
    have hfin := Lib.hid (phrase_close (pre := t :: pre) HS.out HH.out.1 HH.out.2.1 HH.out.2.2.1 HH.out.2.2.2.2.1 hgrow (by rw [← HEV.out]; exact hown4) hat (by rw [HX2.out.2.2.2.1]; rfl) (by rw [HX2.out.2.2.2.2]; simp only [List.length_cons]; omega) HC.out (by simp) HH.out.2.2.2.2.2.2.1 (by rw [HH.out.2.2.2.2.2.1]; omega) (by rw [HH.out.2.2.2.2.2.2.2]))
    clear g1 hgrow hown4 hat hk4
    go_wp2
    exact bodyPost_ret (v := .agg #[.int .i64 0, .int .i64 0]) (by simp [results, Tryz.results74, go_sem, j0, j1]) rfl (.inr ⟨hz, rfl, _, _, E, _, hfin.out.1, HH.out.2.2.2.2.2.2.2, hfin.out.2⟩)
end Go.Proofs.YtbapgdhcbfpdoaaGreatDoor
