/- The document's step: outer verbs. -/
import Derived.Test.YtbapgdhcbfpdoaaGreatDoorYRb
namespace Go.Proofs.YtbapgdhcbfpdoaaGreatDoor
open Go.RowKit
set_option linter.unusedVariables false
set_option linter.unusedSimpArgs false
set_option maxRecDepth 100000
attribute [local go_sem ↓] Go.wp_at_zero Go.wp_at_succ
set_option maxHeartbeats 6400000 in
theorem step5_ok7 (x : It) (A : Option Addr) (c : Nat) (w : World) (B : Nat) (r : List Pt) (g m c0 : Nat) (p q : Pt) (u : List UInt8) (hB : B ≤ w.heap.size) (hg : g < w.heap.size) (hm : m ≤ 1000) (hc0 : m + 2 ≤ c0) (hh : x.how = 7) (h0 : x.ns.length = 0) (h : x.nm = [])
    (hu : u ≠ []) (hul : u.length ≤ 5) (hps : p.s.length ≤ 2000000) (hpt : p.tk ≤ 100000) (hpn : p.ne ≤ 100000) (hqs : q.s.length ≤ 2000000) (hqt : q.tk ≤ 100000) (hqn : q.ne ≤ 100000) (hr : r.length = m) (ho : w.ownsRow B 92 4 (.slice (some ⟨g, 0, none⟩) (m + 2) c0) (m + 2) ((r.reverse ++ ([p] ++ [q])).flatMap ptC))
    (hvb : ∀ W, Calls Tryz.prog 63 #[.int .u8 x.fn, .bool true] W fun e w' => e = .returned (.string (bs u)) ∧ Below W.heap.size W w')
    (hrt : ∀ W : World, Calls Tryz.prog 64 #[.int .u8 x.fn, .bool true] W fun e w' => e = .returned (.bool true) ∧ w' = W)
    (p0 : w.cell? ⟨g, m * 4, none⟩ = some (.string (bs p.s))) (p1 : w.cell? ⟨g, m * 4 + 1, none⟩ = some (.bool p.pl)) (p2 : w.cell? ⟨g, m * 4 + 2, none⟩ = some (.int .i64 p.tk)) (p3 : w.cell? ⟨g, m * 4 + 3, none⟩ = some (.int .i64 p.ne)) (q0 : w.cell? ⟨g, (m + 1) * 4, none⟩ = some (.string (bs q.s))) (q1 : w.cell? ⟨g, (m + 1) * 4 + 1, none⟩ = some (.bool q.pl)) (q2 : w.cell? ⟨g, (m + 1) * 4 + 2, none⟩ = some (.int .i64 q.tk)) (q3 : w.cell? ⟨g, (m + 1) * 4 + 3, none⟩ = some (.int .i64 q.ne)) :
    Calls Tryz.prog 43 #[.slice (some ⟨g, 0, none⟩) (m + 2) c0, itX x A c] w (OkR w B m r (⟨(brkP p).s ++ 32 :: (u ++ [46] ++ 32 :: q.s), false, (brkP p).tk + 2 + q.tk, max (brkP p).ne q.ne⟩ : Pt)) := by
  have hb : Below B w (w.alloc (.cells #[.int .i64 x.how, .int .i64 x.pl, .int .u8 x.fn, .string (bs x.nm), .slice A x.ns.length c] 37)) := (Below.refl _ _).alloc hB _
  unfold itX itW
  rw [hh, h0, h] at hb ⊢
  have HV := Lib.hid hvb
  have HRT := Lib.hid hrt
  have hbn : ((bs []).toList == []) = true := cmpYes rfl
  have hbm : ((bs []).toList != []) = false := by rw [bne, hbn]; rfl
  have hun : ((bs u).toList == []) = false := cmpNo hu
  have hz1 : (bs u).size = u.length := bs_size _
  have hz2 : (bs p.s).size = p.s.length := bs_size _
  have hz3 : (bs q.s).size = q.s.length := bs_size _
  have q1 : ∀ w, (Instr.indexAt 88 (.slice (some ⟨g, 0, none⟩) (m + 2) c0) (.int .i64 ((m : Int) + 1))).run Tryz.prog w = .ok (.pointer (some ⟨g, (m + 1) * 4, none⟩)) w := fun w => by
    have e : ((m + 1 : Nat) : Int) = (m : Int) + 1 := by omega
    rw [← e]
    exact idxPt g (m + 2) c0 (m + 1) (by omega) w
  have q2 : ∀ w, (Instr.indexAt 88 (.slice (some ⟨g, 0, none⟩) (m + 2) c0) (.int .i64 (m : Int))).run Tryz.prog w = .ok (.pointer (some ⟨g, m * 4, none⟩)) w := fun w => by
    exact idxPt g (m + 2) c0 m (by omega) w
  obtain ⟨b, hbr⟩ : ∃ b, b = brkP p := ⟨_, rfl⟩
  have hbc := fun W => bracketed5_any p W (by omega) (by omega) (by omega)
  have hbz : b.s.length ≤ 2000002 ∧ b.tk ≤ 100002 ∧ b.ne ≤ 100001 := by
    rw [hbr]; unfold brkP
    split
    · omega
    · simp only [List.length_cons, List.length_append, List.length_nil]; omega
  obtain ⟨hb1, hb2, hb3⟩ := hbz
  rw [← hbr] at hbc ⊢
  unfold PtRes partV at hbc
  have HBC := Lib.hid hbc
  have hz4 : (bs b.s).size = b.s.length := bs_size _
  clear hbc hbr
  have HB := Lib.hid hb
  have hgne : ¬ g = w.heap.size := by omega
  have HX := Lib.hid (And.intro hh hB)
  have HO := Lib.hid (And.intro ho hr)
  have HPC := Lib.hid (And.intro p0 (And.intro p1 (And.intro p2 p3)))
  clear hB hh hb h0 h hvb ho hr hu hrt p0 p1 p2 p3
  go_enter Tryz.func43, Tryz.ntmps43
  go_wp2_with fail
  obtain ⟨V, hV⟩ : ∃ V, V = (w.alloc (.cells #[.int .i64 7, .int .i64 x.pl, .int .u8 x.fn, .string (bs []), .slice A 0 c] 37)).alloc (.cells #[.string (bs q.s), .bool q.pl, .int .i64 q.tk, .int .i64 q.ne] 92) := ⟨_, rfl⟩
  have hbv : Below B w V := by rw [hV]; exact HB.out.alloc (Nat.le_trans HX.out.2 (by simp)) _
  have hi : V.heap[w.heap.size]? = some (.cells #[.int .i64 7, .int .i64 x.pl, .int .u8 x.fn, .string (bs []), .slice A 0 c] 37 (0, 0)) := by rw [hV]; exact box1 w _ _
  have hi' : V.heap[w.heap.size + 1]? = some (.cells #[.string (bs q.s), .bool q.pl, .int .i64 q.tk, .int .i64 q.ne] 92 (0, 0)) := by rw [hV]; exact box2 w _ _
  have hov : V.ownsRow B 92 4 (.slice (some ⟨g, 0, none⟩) (m + 2) c0) (m + 2) ((r.reverse ++ ([p] ++ [q])).flatMap ptC) := by rw [hV]; exact (HO.out.1.alloc _).alloc _
  have hgv : ∀ i, V.cell? ⟨g, i, none⟩ = w.cell? ⟨g, i, none⟩ := fun i => by
    rw [hV]
    exact World.cell?_of_block (a := ⟨g, i, none⟩) ((heap_alloc_old _ _ (by simp; omega)).trans (heap_alloc_old _ _ hg))
  have HGV := Lib.hid hgv
  clear hgv
  have BV := Lib.hid hbv
  have HI := Lib.hid (And.intro hi hi')
  have HOV := Lib.hid hov
  have HVV := Lib.hid hV
  clear hV hbv hi hi' hov
  rw [← HVV.out]
  refine (HV.out _).mono ?_
  rintro e w2 ⟨rfl, b2⟩
  have B2 := Lib.hid (BV.out.trans (b2.mono (Nat.le_trans HX.out.2 BV.out.size)))
  have hi2 := (b2.block _ (heap_lt HI.out.1)).trans HI.out.1
  have hi3 := (b2.block _ (heap_lt HI.out.2)).trans HI.out.2
  have y0 : w2.cell? ⟨w.heap.size, 0, none⟩ = some (.int .i64 7) := by rw [cell_of_row _ _ _ _ _ _ hi2]; rfl
  have y2 : w2.cell? ⟨w.heap.size, 2, none⟩ = some (.int .u8 x.fn) := by rw [cell_of_row _ _ _ _ _ _ hi2]; rfl
  have z0 : w2.cell? ⟨w.heap.size + 1, 0, none⟩ = some (.string (bs q.s)) := by rw [cell_of_row _ _ _ _ _ _ hi3]; rfl
  have z2 : w2.cell? ⟨w.heap.size + 1, 2, none⟩ = some (.int .i64 q.tk) := by rw [cell_of_row _ _ _ _ _ _ hi3]; rfl
  have z3 : w2.cell? ⟨w.heap.size + 1, 3, none⟩ = some (.int .i64 q.ne) := by rw [cell_of_row _ _ _ _ _ _ hi3]; rfl
  have HO2 := Lib.hid (row_keep HOV.out (fun k hk hl => b2.block k hl) (Nat.le_refl _))
  have hl2 : w.heap.size + 1 < w2.heap.size := heap_lt hi3
  have hgl : g < V.heap.size := (row_base HOV.out rfl).2
  have p0 := (cell_below b2 hgl (m * 4)).trans ((HGV.out (m * 4)).trans HPC.out.1)
  have p1 := (cell_below b2 hgl (m * 4 + 1)).trans ((HGV.out (m * 4 + 1)).trans HPC.out.2.1)
  have p2 := (cell_below b2 hgl (m * 4 + 2)).trans ((HGV.out (m * 4 + 2)).trans HPC.out.2.2.1)
  have p3 := (cell_below b2 hgl (m * 4 + 3)).trans ((HGV.out (m * 4 + 3)).trans HPC.out.2.2.2)
  have HI3 := Lib.hid hi3
  clear b2 hi2 hi3
  go_wp2_with fail
  refine (HRT.out _).mono ?_
  rintro e w3 ⟨rfl, rfl⟩
  go_wp2_with fail
  refine (HBC.out _).mono ?_
  rintro e w4 ⟨rfl, b4⟩
  have HO2 := Lib.hid (row_keep HO2.out (fun k hk hl => b4.block k hl) (Nat.le_refl _))
  have hi3 := (b4.block _ (heap_lt HI3.out)).trans HI3.out
  have z0 : w4.cell? ⟨w.heap.size + 1, 0, none⟩ = some (.string (bs q.s)) := by rw [cell_of_row _ _ _ _ _ _ hi3]; rfl
  have z2 : w4.cell? ⟨w.heap.size + 1, 2, none⟩ = some (.int .i64 q.tk) := by rw [cell_of_row _ _ _ _ _ _ hi3]; rfl
  have z3 : w4.cell? ⟨w.heap.size + 1, 3, none⟩ = some (.int .i64 q.ne) := by rw [cell_of_row _ _ _ _ _ _ hi3]; rfl
  have hl2 : w.heap.size + 1 < w4.heap.size := heap_lt hi3
  have B2 := Lib.hid (B2.out.trans (b4.mono (Nat.le_trans HX.out.2 B2.out.size)))
  clear b4 hi3
  obtain ⟨w5, hw5⟩ : ∃ w5, w5 = w4.alloc (.cells #[.string (bs b.s), .bool b.pl, .int .i64 b.tk, .int .i64 b.ne] 92) := ⟨_, rfl⟩
  have hs5 : w5.heap.size = w4.heap.size + 1 := by rw [hw5]; simp
  have HO2 := Lib.hid (show w5.ownsRow B 92 4 (.slice (some ⟨g, 0, none⟩) (m + 2) c0) (m + 2) ((r.reverse ++ ([p] ++ [q])).flatMap ptC) by rw [hw5]; exact HO2.out.alloc _)
  have B2 := Lib.hid (show Below B w w5 from B2.out.trans (by rw [hw5]; exact (Below.refl _ _).alloc (Nat.le_trans HX.out.2 (Nat.le_trans (by omega) (Nat.le_of_lt hl2))) _))
  have hl2 : w.heap.size + 1 < w5.heap.size := by omega
  have HW5 := Lib.hid hw5
  have HS5 := Lib.hid hs5
  clear hw5 hs5
  obtain ⟨P, hP⟩ : ∃ P : Pt, P = (⟨b.s ++ 32 :: (u ++ [46] ++ 32 :: q.s), false, b.tk + 2 + q.tk, max b.ne q.ne⟩ : Pt) := ⟨_, rfl⟩
  obtain ⟨W, hW⟩ : ∃ W, W = w5.alloc (.cells #[.string (bs P.s), .bool P.pl, .int .i64 P.tk, .int .i64 P.ne] 92) := ⟨_, rfl⟩
  have HWW := Lib.hid (show w5.alloc (.cells #[.string (bs b.s ++ ⟨#[32]⟩ ++ (bs u ++ ⟨#[46]⟩) ++ ⟨#[32]⟩ ++ bs q.s), .bool false, .int .i64 ((b.tk : Int) + 2 + (q.tk : Int)), .int .i64 (max (b.ne : Int) (q.ne : Int))] 92) = W by
    rw [hW, hP, show bs b.s ++ ⟨#[32]⟩ ++ (bs u ++ ⟨#[46]⟩) ++ ⟨#[32]⟩ ++ bs q.s = bs (b.s ++ 32 :: (u ++ [46] ++ 32 :: q.s)) from by rw [show (⟨#[32]⟩ : ByteArray) = bs [32] from rfl, show (⟨#[46]⟩ : ByteArray) = bs [46] from rfl, cat_bs, cat_bs, cat_bs, cat_bs, cat_bs]; exact congrArg bs (by simp), show max (b.ne : Int) (q.ne : Int) = ((max b.ne q.ne : Nat) : Int) from by omega]; rfl)
  have hBW : Below B w W := B2.out.trans (by rw [hW]; exact (Below.refl _ _).alloc (Nat.le_trans HX.out.2 (Nat.le_trans (by omega) (Nat.le_of_lt hl2))) _)
  have hkW : W.heap[w5.heap.size]? = some (.cells #[.string (bs P.s), .bool P.pl, .int .i64 P.tk, .int .i64 P.ne] 92 (0, 0)) := by rw [hW]; exact heap_alloc_new w5 _
  obtain ⟨gp, hgp⟩ : ∃ gp, gp = w4.heap.size + 1 := ⟨_, rfl⟩
  rw [HS5.out, ← hgp] at hkW
  have hoW : W.ownsRow B 92 4 (.slice (some ⟨g, 0, none⟩) (m + 2) c0) (m + 2) ((r.reverse ++ ([p] ++ [q])).flatMap ptC) := by rw [hW]; exact HO2.out.alloc _
  have hlW : gp < W.heap.size := heap_lt hkW
  have hgW : g < W.heap.size := (row_base hoW rfl).2
  have hBl : B ≤ W.heap.size := Nat.le_trans HX.out.2 (Nat.le_trans (by omega) (Nat.le_of_lt hlW))
  have s0 : W.cell? ⟨gp, 0, none⟩ = some (.string (bs P.s)) := by rw [cell_of_row _ _ _ _ _ _ hkW]; rfl
  have s1 : W.cell? ⟨gp, 1, none⟩ = some (.bool P.pl) := by rw [cell_of_row _ _ _ _ _ _ hkW]; rfl
  have s2 : W.cell? ⟨gp, 2, none⟩ = some (.int .i64 P.tk) := by rw [cell_of_row _ _ _ _ _ _ hkW]; rfl
  have s3 : W.cell? ⟨gp, 3, none⟩ = some (.int .i64 P.ne) := by rw [cell_of_row _ _ _ _ _ _ hkW]; rfl
  have HRP := Lib.hid (And.intro (PtR.head (l := r.reverse) hoW) hkW)
  have HP := Lib.hid hP
  have HGP := Lib.hid hgp
  have HBW := Lib.hid hBW
  have hrl : r.reverse.length = m := by rw [List.length_reverse]; exact HO.out.2
  have HRL := Lib.hid hrl
  clear hP hW hBW hkW hoW hgp hrl
  go_wp2_with fail
  rw [← HW5.out, HWW.out, ← HGP.out]
  have a1 : (0 : Int) ≤ (m : Int) := by omega
  have a2 : (m : Int) ≤ (c0 : Int) := by omega
  have a3 : IntKind.i64.wrap (m : Int) = (m : Int) := by simp [IntKind.wrap, IntKind.bits, IntKind.signed]; omega
  clear z0 z2 z3
  go_region_law (first
    | (refine step_append_pt0 (by rfl) _ _ (by rfl) B (.slice (some ⟨W.heap.size, 0, none⟩) 0 0) (by rfl) (own_zero (w := (W.alloc (.cells #[] 92)).drew) (heap_alloc_new W (.cells #[] 92)) (by omega)) (some ⟨g, 0, none⟩) m c0 r.reverse (by rfl) HRL.out (HRP.out.1.keep (w' := (W.alloc (.cells #[] 92)).drew) (heap_alloc_old W (.cells #[] 92) hgW)) (by omega) (by simp; omega) ?_; intro A5 c5 w5 o5 b5 k5; have k5g := (k5 gp (by simp; omega) (by simp [Value.ownBlock]; omega)).trans (heap_alloc_old W (.cells #[] 92) hlW); have s50 := (World.cell?_of_block (a := ⟨gp, 0, none⟩) k5g).trans s0; have s51 := (World.cell?_of_block (a := ⟨gp, 1, none⟩) k5g).trans s1; have s52 := (World.cell?_of_block (a := ⟨gp, 2, none⟩) k5g).trans s2; have s53 := (World.cell?_of_block (a := ⟨gp, 3, none⟩) k5g).trans s3; have hl5 : B ≤ w5.heap.size := Nat.le_trans (Nat.le_trans hBl (by simp <;> omega)) b5.size; have f5 : Below B W w5 := (below_drewN (k := 1) ((Below.refl _ W).alloc hBl (.cells #[] 92)) (by simp; omega)).trans b5; clear k5g)
    | (refine step_append_pt0 (by rfl) _ _ (by rfl) B (.slice (some ⟨W.heap.size, 0, none⟩) 0 0) (by rfl) (own_zero (w := ((W.alloc (.cells #[] 92)).alloc (.cells #[.string (bs P.s), .bool P.pl, .int .i64 P.tk, .int .i64 P.ne] 92)).drew) (box1 W (.cells #[] 92) (.cells #[.string (bs P.s), .bool P.pl, .int .i64 P.tk, .int .i64 P.ne] 92)) (by omega)) (some ⟨g, 0, none⟩) m c0 r.reverse (by rfl) HRL.out (HRP.out.1.keep (w' := ((W.alloc (.cells #[] 92)).alloc (.cells #[.string (bs P.s), .bool P.pl, .int .i64 P.tk, .int .i64 P.ne] 92)).drew) ((heap_alloc_old (W.alloc (.cells #[] 92)) (.cells #[.string (bs P.s), .bool P.pl, .int .i64 P.tk, .int .i64 P.ne] 92) (by simp; omega)).trans (heap_alloc_old W (.cells #[] 92) hgW))) (by omega) (by simp; omega) ?_; intro A5 c5 w5 o5 b5 k5; have k5g := (k5 gp (by simp; omega) (by simp [Value.ownBlock]; omega)).trans ((heap_alloc_old (W.alloc (.cells #[] 92)) (.cells #[.string (bs P.s), .bool P.pl, .int .i64 P.tk, .int .i64 P.ne] 92) (by simp; omega)).trans (heap_alloc_old W (.cells #[] 92) hlW)); have s50 := (World.cell?_of_block (a := ⟨gp, 0, none⟩) k5g).trans s0; have s51 := (World.cell?_of_block (a := ⟨gp, 1, none⟩) k5g).trans s1; have s52 := (World.cell?_of_block (a := ⟨gp, 2, none⟩) k5g).trans s2; have s53 := (World.cell?_of_block (a := ⟨gp, 3, none⟩) k5g).trans s3; have hl5 : B ≤ w5.heap.size := Nat.le_trans (Nat.le_trans hBl (by simp <;> omega)) b5.size; have h51 := (k5 (W.heap.size + 1) (by simp) (by simp [Value.ownBlock])).trans (box2 W (.cells #[] 92) (.cells #[.string (bs P.s), .bool P.pl, .int .i64 P.tk, .int .i64 P.ne] 92)); have f5 : Below B W w5 := (below_drewN (k := 1) (((Below.refl _ W).alloc hBl (.cells #[] 92)).alloc (by simp; omega) (.cells #[.string (bs P.s), .bool P.pl, .int .i64 P.tk, .int .i64 P.ne] 92)) (by simp; omega)).trans b5; clear k5g)
    | (refine step_append_pt0 (by rfl) _ _ (by rfl) B (.slice (some ⟨W.heap.size + 1, 0, none⟩) 0 0) (by rfl) (own_zero (w := ((W.alloc (.cells #[.string (bs P.s), .bool P.pl, .int .i64 P.tk, .int .i64 P.ne] 92)).alloc (.cells #[] 92)).drew) (box2 W (.cells #[.string (bs P.s), .bool P.pl, .int .i64 P.tk, .int .i64 P.ne] 92) (.cells #[] 92)) (by omega)) (some ⟨g, 0, none⟩) m c0 r.reverse (by rfl) HRL.out (HRP.out.1.keep (w' := ((W.alloc (.cells #[.string (bs P.s), .bool P.pl, .int .i64 P.tk, .int .i64 P.ne] 92)).alloc (.cells #[] 92)).drew) ((heap_alloc_old (W.alloc (.cells #[.string (bs P.s), .bool P.pl, .int .i64 P.tk, .int .i64 P.ne] 92)) (.cells #[] 92) (by simp; omega)).trans (heap_alloc_old W (.cells #[.string (bs P.s), .bool P.pl, .int .i64 P.tk, .int .i64 P.ne] 92) hgW))) (by omega) (by simp; omega) ?_; intro A5 c5 w5 o5 b5 k5; have k5g := (k5 gp (by simp; omega) (by simp [Value.ownBlock]; omega)).trans ((heap_alloc_old (W.alloc (.cells #[.string (bs P.s), .bool P.pl, .int .i64 P.tk, .int .i64 P.ne] 92)) (.cells #[] 92) (by simp; omega)).trans (heap_alloc_old W (.cells #[.string (bs P.s), .bool P.pl, .int .i64 P.tk, .int .i64 P.ne] 92) hlW)); have s50 := (World.cell?_of_block (a := ⟨gp, 0, none⟩) k5g).trans s0; have s51 := (World.cell?_of_block (a := ⟨gp, 1, none⟩) k5g).trans s1; have s52 := (World.cell?_of_block (a := ⟨gp, 2, none⟩) k5g).trans s2; have s53 := (World.cell?_of_block (a := ⟨gp, 3, none⟩) k5g).trans s3; have hl5 : B ≤ w5.heap.size := Nat.le_trans (Nat.le_trans hBl (by simp <;> omega)) b5.size; have h51 := (k5 W.heap.size (by simp; omega) (by simp [Value.ownBlock])).trans (box1 W (.cells #[.string (bs P.s), .bool P.pl, .int .i64 P.tk, .int .i64 P.ne] 92) (.cells #[] 92)); have f5 : Below B W w5 := (below_drewN (k := 1) (((Below.refl _ W).alloc hBl (.cells #[.string (bs P.s), .bool P.pl, .int .i64 P.tk, .int .i64 P.ne] 92)).alloc (by simp; omega) (.cells #[] 92)) (by simp; omega)).trans b5; clear k5g)
    | (refine step_append_pt (by rfl) _ _ (by rfl) B (.slice A5 m c5) m r.reverse (by rfl) (o5.alloc (.cells #[.string (bs P.s), .bool P.pl, .int .i64 P.tk, .int .i64 P.ne] 92)) (some ⟨w5.heap.size, 0, none⟩) 1 1 [P] (by rfl) (by rfl) (PtR.box (heap_alloc_new w5 (.cells #[.string (bs P.s), .bool P.pl, .int .i64 P.tk, .int .i64 P.ne] 92))) (by omega) (by simp; omega) ?_; intro A6 c6 w6 o6 b6 k6; have f6 : Below B W w6 := f5.trans (((Below.refl _ w5).alloc hl5 (.cells #[.string (bs P.s), .bool P.pl, .int .i64 P.tk, .int .i64 P.ne] 92)).trans b6))
    | (refine step_append_pt (by rfl) _ _ (by rfl) B (.slice A5 m c5) m r.reverse (by rfl) o5 (some ⟨W.heap.size + 1, 0, none⟩) 1 1 [P] (by rfl) (by rfl) (PtR.box h51) (by omega) hl5 ?_; intro A6 c6 w6 o6 b6 k6; have f6 : Below B W w6 := f5.trans b6)
    | (refine step_append_pt (by rfl) _ _ (by rfl) B (.slice A5 m c5) m r.reverse (by rfl) o5 (some ⟨W.heap.size, 0, none⟩) 1 1 [P] (by rfl) (by rfl) (PtR.box h51) (by omega) hl5 ?_; intro A6 c6 w6 o6 b6 k6; have f6 : Below B W w6 := f5.trans b6)
    | fail)
  all_goals
    have F6 := Lib.hid f6
    have O6 := Lib.hid o6
    clear f6 o6 b6 k6 b5 k5 o5
    go_wp2
    have o7 := O6.out
    rw [HP.out] at o7
    exact bodyPost_ret (v := .tuple #[.slice A6 (m + 1) c6, .bool true]) (R := OkR w B m r (⟨b.s ++ 32 :: (u ++ [46] ++ 32 :: q.s), false, b.tk + 2 + q.tk, max b.ne q.ne⟩ : Pt)) (by simp [results, Tryz.results43, go_sem]) rfl ⟨HBW.out.trans F6.out, A6, c6, rfl, o7⟩
end Go.Proofs.YtbapgdhcbfpdoaaGreatDoor
