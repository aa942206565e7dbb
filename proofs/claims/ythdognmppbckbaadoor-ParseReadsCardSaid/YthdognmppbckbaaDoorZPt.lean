/- The document's operand: a name, and brackets. Written by gen_ze.py. -/
import Derived.BigRegion
import Derived.Test.YthdognmppbckbaaDoorZPq
namespace Go.Proofs.YthdognmppbckbaaDoor
open Go.RowKit
set_option linter.unusedVariables false
theorem RZ.setI {w : World} {R g n c I : Nat} {T : List Tk} {E D fa fc : Int} (h : RZ w R g T n c I E D fa fc) (I' : Nat) (v : Int) (hv : v = (I' : Int)) : RZ (w.setCell ⟨R, 1, none⟩ (.int .i64 v)) R g T n c I' E D fa fc := by
  subst hv
  exact h.next ((Fr.refl (fun k => k = R) w).set (.inl rfl) 1 _) (by rw [heap_setCell_same _ _ _ _ _ _ h.blk]; rfl)
theorem RZ.setD {w : World} {R g n c I : Nat} {T : List Tk} {E D fa fc : Int} (h : RZ w R g T n c I E D fa fc) (D' v : Int) (hv : v = D') : RZ (w.setCell ⟨R, 3, none⟩ (.int .i64 v)) R g T n c I E D' fa fc := by
  subst hv
  exact h.next ((Fr.refl (fun k => k = R) w).set (.inl rfl) 3 _) (by rw [heap_setCell_same _ _ _ _ _ _ h.blk]; rfl)
theorem Fr.setR {w w' : World} {R : Nat} (h : Fr (fun k => k = R) w w') (o : Nat) (v : Value) : Fr (fun k => k = R) w (w'.setCell ⟨R, o, none⟩ v) := h.set (.inl rfl) o v
theorem OI.one {w : World} {B q : Nat} (m : IM) (hq : w.heap[q]? = some (.cells m.cells.toArray 52 (0, 0))) (hB : B ≤ q) (hn : RdN w (fun j => j < w.heap.size) m.A m.it.ns) : OI w B (.slice (some ⟨q, 0, none⟩) 1 1) 1 [m.it] :=
  ⟨[m], ⟨by simp [IM.cells], .inr ⟨q, 1, _, rfl, hB, hq, Nat.le_refl _, by unfold maxLen; omega, by simp [IM.cells], by simp [IM.cells]⟩⟩, rfl, rfl, fun x hx => by simp at hx; subst hx; exact hn⟩
set_option maxRecDepth 100000 in
set_option maxHeartbeats 1600000 in
theorem opd_e (w : World) (R g n c I : Nat) (T : List Tk) (E : Int) (d : Nat) (h : RZ w R g T n c I E d 0 0) (hlg : g < w.heap.size) (hn7 : n ≤ 1000000) (hT : LT T) (hId : I + d ≤ n + 32) (hIn : I ≤ n) (hd9 : d ≤ 32) (hI : I < n) (hk : (T.getD I default).k = 1) (hw : nameB (T.getD I default).w = true) : Calls Tryd.prog 84 #[.pointer (some ⟨R, 0, none⟩)] w (ExAns w R g T n c I E d (.ok [⟨2, (T.getD I default).a, 0, (T.getD I default).w, []⟩] (tl T E (I + 1)))) := by
  have hRl := h.lt
  have Z0 := Lib.hid h
  have F0 := Lib.hid (Fr.refl (fun k => k = R) w)
  have HB := Lib.hid (And.intro hlg (And.intro hId (And.intro hIn h.hn)))
  have HI40 := Lib.hid (fun (W : World) (hW : RZ W R g T n c I E d 0 0) => (show Calls Tryd.prog 48 #[.pointer (some ⟨R, 0, none⟩), .string ⟨#[40]⟩] W (fun e w' => e = .returned (.bool false) ∧ ∃ j, w' = W.drewN j) from is_any W R g n c I T E d 0 0 hW [40] false (fun a b => hT.kw _ (getD_mem (by rw [h.hn]; exact a)) (by rw [b]; decide)) (by symm; exact decide_eq_false (fun a => by rw [a.2] at hw; exact absurd hw (by decide)))))
  obtain ⟨t, ht⟩ : ∃ t, t = T.getD I default := ⟨_, rfl⟩
  have htl := hT.len _ (getD_mem (by rw [h.hn]; exact hI))
  rw [← ht] at hk hw htl ⊢
  have HTT := Lib.hid ht
  have hd : decide ((I : Int) < (n : Int)) = true := by simp; omega
  have hk2 : (t.k == 2) = false := by rw [hk]; rfl
  have hk1 : (t.k == 1) = true := by rw [hk]; rfl
  have q1 := idxTo g n c I hI
  have HNM := Lib.hid (fun W => (show Calls Tryd.prog 18 #[.string (bs t.w)] W (fun e w' => e = .returned (.bool true) ∧ Below W.heap.size W w') from (by have h1 := rname_any t.w W (by omega); rw [hw] at h1; exact h1)))
  clear h hlg hId hIn hT hk hw ht htl
  go_enter Tryd.func84, Tryd.ntmps84
  go_wp2_with fail
  refine (HI40.out _ Z0.out).mono ?_
  rintro e w1 ⟨rfl, j1, e1⟩
  have Z1 := Lib.hid (show RZ w1 R g T n c I E d 0 0 by rw [e1]; exact Z0.out.keep (below_drewN (Below.refl _ _) (Nat.le_refl _)))
  have F1 := Lib.hid (show Fr (fun k => k = R) w w1 by rw [e1]; exact F0.out.drewN _)
  clear e1
  obtain ⟨c0, c1, -, -, -, -⟩ := Z1.out.c0
  have u0 := fun j => (show (w1.drewN j).cell? ⟨R, 0, none⟩ = some (.slice (some ⟨g, 0, none⟩) n c) from c0)
  have u1 := fun j => (show (w1.drewN j).cell? ⟨R, 1, none⟩ = some (.int .i64 I) from c1)
  obtain ⟨k0, k1, k2, -⟩ := Z1.out.tok I hI
  rw [← HTT.out] at k0 k1 k2
  have v0 := fun j => (show (w1.drewN j).cell? ⟨g, I * 4, none⟩ = some (.int .i64 t.k) from k0)
  have v1 := fun j => (show (w1.drewN j).cell? ⟨g, I * 4 + 1, none⟩ = some (.int .i64 t.a) from k1)
  have v2 := fun j => (show (w1.drewN j).cell? ⟨g, I * 4 + 2, none⟩ = some (.string (bs t.w)) from k2)
  clear c0 c1 k0 k1 k2
  go_wp2
  go_quiet (fail)
  clear u0 u1 v0 v1 v2
  obtain ⟨w2, hw2⟩ : ∃ w2, w2 = w1.drewN nq := ⟨_, rfl⟩
  rw [← hw2]
  have Z2 := Lib.hid (show RZ w2 R g T n c I E d 0 0 by rw [hw2]; exact Z1.out.keep (below_drewN (Below.refl _ _) (Nat.le_refl _)))
  have F2 := Lib.hid (show Fr (fun k => k = R) w w2 by rw [hw2]; exact F1.out.drewN _)
  clear hw2
  have KS : ∀ w' : World, Hid (Below w2.heap.size w2 w') → w'.cell? ⟨R, 0, none⟩ = some (.slice (some ⟨g, 0, none⟩) n c) ∧ w'.cell? ⟨R, 1, none⟩ = some (.int .i64 I) ∧ w'.cell? ⟨g, I * 4, none⟩ = some (.int .i64 t.k) ∧ w'.cell? ⟨g, I * 4 + 2, none⟩ = some (.string (bs t.w)) ∧ Hid (Below w2.heap.size w2 w') := fun w' h => ⟨(cell_below h.out Z2.out.lt 0).trans Z2.out.c0.1, (cell_below h.out Z2.out.lt 1).trans Z2.out.c0.2.1, (cell_below h.out Z2.out.lg _).trans (by rw [HTT.out]; exact (Z2.out.tok I hI).1), (cell_below h.out Z2.out.lg _).trans (by rw [HTT.out]; exact (Z2.out.tok I hI).2.2.1), h⟩
  have hb2 : Hid (Below w2.heap.size w2 w2) := Below.refl _ _
  obtain ⟨r0, r1, g0, g2, -⟩ := KS w2 hb2
  go_wp2
  go_region_held3 (fun w' => w'.cell? ⟨R, 0, none⟩ = some (.slice (some ⟨g, 0, none⟩) n c) ∧ w'.cell? ⟨R, 1, none⟩ = some (.int .i64 I) ∧ w'.cell? ⟨g, I * 4, none⟩ = some (.int .i64 t.k) ∧ w'.cell? ⟨g, I * 4 + 2, none⟩ = some (.string (bs t.w)) ∧ Hid (Below w2.heap.size w2 w'))
    (first | (exact KS _ (by first | assumption | exact hidDrew (by assumption) _)) | go_keep)
    (first | (go_at_call 18; refine (HNM.out _).mono ?_; rintro e w6 ⟨rfl, g6⟩; have k6 : Hid (Below w2.heap.size w2 w6) := hidTrans (by simp [*]) g6; clear g6))
  clear KS hb2 r0 r1 g0 g2
  have Z6 := Lib.hid (Z2.out.keep k6.out)
  have F6 := Lib.hid (F2.out.trans (below_fr k6.out _))
  clear k6
  obtain ⟨c0, c1, -, -, -, -⟩ := Z6.out.c0
  have u0 := fun j => (show (w6.drewN j).cell? ⟨R, 0, none⟩ = some (.slice (some ⟨g, 0, none⟩) n c) from c0)
  have u1 := fun j => (show (w6.drewN j).cell? ⟨R, 1, none⟩ = some (.int .i64 I) from c1)
  obtain ⟨k0, k1, k2, -⟩ := Z6.out.tok I hI
  rw [← HTT.out] at k0 k1 k2
  have v0 := fun j => (show (w6.drewN j).cell? ⟨g, I * 4, none⟩ = some (.int .i64 t.k) from k0)
  have v1 := fun j => (show (w6.drewN j).cell? ⟨g, I * 4 + 1, none⟩ = some (.int .i64 t.a) from k1)
  have v2 := fun j => (show (w6.drewN j).cell? ⟨g, I * 4 + 2, none⟩ = some (.string (bs t.w)) from k2)
  have hR6 := Z6.out.lt
  have hg6 := Z6.out.lg
  go_wp2
  go_region
  all_goals
    obtain ⟨w7, hw7⟩ : ∃ w7, w7 = (w6.alloc (.cells #[.int .i64 2, .int .i64 t.a, .int .u8 0, .string (bs t.w), .slice none 0 0] 52)).drew := ⟨_, rfl⟩
    rw [← hw7]
    have HBX := Lib.hid (show w7.heap[w6.heap.size]? = some (.cells #[.int .i64 2, .int .i64 t.a, .int .u8 0, .string (bs t.w), .slice none 0 0] 52 (0, 0)) by rw [hw7]; exact heap_alloc_new w6 _)
    have Z7 := Lib.hid (show RZ w7 R g T n c I E d 0 0 by rw [hw7]; exact Z6.out.keep (up_drew w6 _))
    have F7 := Lib.hid (show Fr (fun k => k = R) w w7 by rw [hw7]; exact F6.out.trans (below_fr (up_drew w6 _) _))
    have hz7 : w7.heap.size = w6.heap.size + 1 := by rw [hw7]; simp
    clear hw7 u0 u1 v0 v1 v2 c0 c1 k0 k1 k2
    obtain ⟨b0, b1, b2, b3, b4⟩ : w7.cell? ⟨w6.heap.size, 0, none⟩ = some (.int .i64 2) ∧ w7.cell? ⟨w6.heap.size, 1, none⟩ = some (.int .i64 t.a) ∧ w7.cell? ⟨w6.heap.size, 2, none⟩ = some (.int .u8 0) ∧ w7.cell? ⟨w6.heap.size, 3, none⟩ = some (.string (bs t.w)) ∧ w7.cell? ⟨w6.heap.size, 4, none⟩ = some (.slice none 0 0) := by
      refine ⟨?_, ?_, ?_, ?_, ?_⟩ <;> · rw [cell_of_row _ _ _ _ _ _ HBX.out]; rfl
    obtain ⟨-, c1, -, -, -, -⟩ := Z7.out.c0
    have f1 := frozen_of_row _ _ 1 _ _ Z7.out.blk
    have hR7 := Z7.out.lt
    have hRb : ¬ R = w6.heap.size := by have := Z6.out.lt; omega
    have hRb' : ¬ w6.heap.size = R := fun e => hRb e.symm
    have hl7 : w6.heap.size < w7.heap.size := by omega
    go_wp2
    refine bodyPost_ret (v := .slice (some ⟨w7.heap.size, 0, none⟩) 1 1) (by simp [results, Tryd.results84, go_sem]) rfl ?_
    have hz6 := F6.out.size
    have Z8 := (Z7.out.setI (I + 1) ((I : Int) + 1) (by omega)).up (.cells #[.int .i64 2, .int .i64 t.a, .int .u8 0, .string (bs t.w), .slice none 0 0] 52)
    exact ⟨some ⟨w7.heap.size, 0, none⟩, 1, 1, [⟨2, t.a, 0, t.w, []⟩], rfl, OI.one ⟨⟨2, t.a, 0, t.w, []⟩, none, 0⟩ (by have := heap_alloc_new (w7.setCell ⟨R, 1, none⟩ (.int .i64 ((I : Int) + 1))) (.cells #[.int .i64 2, .int .i64 t.a, .int .u8 0, .string (bs t.w), .slice none 0 0] 52); rw [show (w7.setCell ⟨R, 1, none⟩ (.int .i64 ((I : Int) + 1))).heap.size = w7.heap.size by simp] at this; exact this) (by omega) (RdN.nil _ _ _), (F7.out.setR 1 _).alloc _, by omega, I + 1, 0, 0, Z8, by have := HB.out.2.1; omega, rfl, rfl, rfl, by omega, by omega, rfl, by omega⟩
set_option maxRecDepth 100000 in
set_option maxHeartbeats 1600000 in
theorem opd_b1 (a e0 : Int) (w : World) (R g n c I : Nat) (T : List Tk) (E : Int) (d : Nat) (h : RZ w R g T n c I E d 0 0) (hlg : g < w.heap.size) (hn7 : n ≤ 1000000) (hT : LT T) (hId : I + d ≤ n + 32) (hIn : I ≤ n) (hI : I < n) (hw : (T.getD I default).w = [40]) (hd32 : d < 32) (HX1 : ∀ W : World, RZ W R g T n c (I + 1) E ((d + 1 : Nat) : Int) 0 0 → g < W.heap.size → Calls Tryd.prog 70 #[.pointer (some ⟨R, 0, none⟩)] W (ExAns W R g T n c (I + 1) E (d + 1) (.err a e0)))  : Calls Tryd.prog 84 #[.pointer (some ⟨R, 0, none⟩)] w (ExAns w R g T n c I E d (.err a e0)) := by
  have hRl := h.lt
  have Z0 := Lib.hid h
  have F0 := Lib.hid (Fr.refl (fun k => k = R) w)
  have HB := Lib.hid (And.intro hlg (And.intro hId (And.intro hIn h.hn)))
  have HI40 := Lib.hid (fun (W : World) (hW : RZ W R g T n c I E d 0 0) => (show Calls Tryd.prog 48 #[.pointer (some ⟨R, 0, none⟩), .string ⟨#[40]⟩] W (fun e w' => e = .returned (.bool true) ∧ ∃ j, w' = W.drewN j) from is_any W R g n c I T E d 0 0 hW [40] true (fun a b => hT.kw _ (getD_mem (by rw [h.hn]; exact a)) (by rw [b]; decide)) (by symm; exact decide_eq_true ⟨hI, hw⟩)))
  have HXX := Lib.hid HX1
  have hd3 : ((d : Int) == 32) = false := by simp; omega
  have hd7 : d < 32 := hd32
  clear h hlg hId hIn hT hw hd32 HX1
  go_enter Tryd.func84, Tryd.ntmps84
  go_wp2_with fail
  refine (HI40.out _ Z0.out).mono ?_
  rintro e w1 ⟨rfl, j1, e1⟩
  have Z1 := Lib.hid (show RZ w1 R g T n c I E d 0 0 by rw [e1]; exact Z0.out.keep (below_drewN (Below.refl _ _) (Nat.le_refl _)))
  have F1 := Lib.hid (show Fr (fun k => k = R) w w1 by rw [e1]; exact F0.out.drewN _)
  clear e1
  obtain ⟨-, c1, -, c3, -, -⟩ := Z1.out.c0
  have f1 := frozen_of_row _ _ 1 _ _ Z1.out.blk
  have f3 := frozen_of_row _ _ 3 _ _ Z1.out.blk
  have hR1 := Z1.out.lt
  go_wp2_with fail
  refine (HXX.out _ ((Z1.out.setI (I + 1) _ (by omega)).setD ((d + 1 : Nat) : Int) _ (by omega)) (by have := HB.out.1; have := F1.out.size; simp; omega)).mono ?_
  rintro e w2 ⟨A, m, k, l, rfl, o2, f2, hm2, I', fa, fc, z2, hI', ok2⟩
  have O2 := Lib.hid (o2.base (B' := w.heap.size) (by have := F1.out.size; simp; omega))
  have F2 := Lib.hid (((F1.out.setR 1 _).setR 3 _).trans f2)
  have Z2 := Lib.hid z2
  clear o2 f2 z2 c1 c3 f1 f3 HXX
  obtain ⟨rfl, rfl, hne⟩ := ok2
  have hne2 : (fc == 0) = false := by simpa using hne
  have HK := Lib.hid (And.intro hne (And.intro hI' hm2))
  clear hne hI' hm2
  obtain ⟨-, -, -, c3, -, c5⟩ := Z2.out.c0
  have f3 := frozen_of_row _ _ 3 _ _ Z2.out.blk
  have hR2 := Z2.out.lt
  obtain ⟨-, c1, -⟩ := Z2.out.c0
  have f1 := frozen_of_row _ _ 1 _ _ Z2.out.blk
  have hI9 : I' ≤ 1000033 := by have := HK.out.2.1; omega
  go_wp2
  refine bodyPost_ret (v := .slice A m k) (by simp [results, Tryd.results84, go_sem]) rfl ?_
  have F3 := (Fr.refl (fun k => k = R) w2).setR 3 (.int .i64 ((d : Int)))
  have Z3 := (Z2.out.setD (d : Int) _ rfl).setI (I' + 1) ((I' : Int) + 1) (by omega)
  exact ⟨A, m, k, l, rfl, O2.out.far (F3.setR 1 (.int .i64 ((I' : Int) + 1))) Z2.out.blk, (F2.out.setR 3 _).setR 1 _, by have := HK.out.2.2; omega, I' + 1, fa, fc, Z3, by have := HK.out.2.1; omega, rfl, rfl, HK.out.1⟩
set_option maxRecDepth 100000 in
set_option maxHeartbeats 1600000 in
theorem opd_b2 (its : List It) (J : Nat) (w : World) (R g n c I : Nat) (T : List Tk) (E : Int) (d : Nat) (h : RZ w R g T n c I E d 0 0) (hlg : g < w.heap.size) (hn7 : n ≤ 1000000) (hT : LT T) (hJle : J ≤ n) (hId : I + d ≤ n + 32) (hIn : I ≤ n) (hI : I < n) (hw : (T.getD I default).w = [40]) (hd32 : d < 32) (HX1 : ∀ W : World, RZ W R g T n c (I + 1) E ((d + 1 : Nat) : Int) 0 0 → g < W.heap.size → Calls Tryd.prog 70 #[.pointer (some ⟨R, 0, none⟩)] W (ExAns W R g T n c (I + 1) E (d + 1) (.ok its (tl T E J)))) (hcl : ¬ (J < n ∧ (T.getD J default).w = [41])) : Calls Tryd.prog 84 #[.pointer (some ⟨R, 0, none⟩)] w (ExAns w R g T n c I E d (.err (placeR T J E) 42)) := by
  have hRl := h.lt
  have Z0 := Lib.hid h
  have F0 := Lib.hid (Fr.refl (fun k => k = R) w)
  have HB := Lib.hid (And.intro hlg (And.intro hId (And.intro hIn h.hn)))
  have HI40 := Lib.hid (fun (W : World) (hW : RZ W R g T n c I E d 0 0) => (show Calls Tryd.prog 48 #[.pointer (some ⟨R, 0, none⟩), .string ⟨#[40]⟩] W (fun e w' => e = .returned (.bool true) ∧ ∃ j, w' = W.drewN j) from is_any W R g n c I T E d 0 0 hW [40] true (fun a b => hT.kw _ (getD_mem (by rw [h.hn]; exact a)) (by rw [b]; decide)) (by symm; exact decide_eq_true ⟨hI, hw⟩)))
  have HXX := Lib.hid HX1
  have hd3 : ((d : Int) == 32) = false := by simp; omega
  have hd7 : d < 32 := hd32
  have HI41 := Lib.hid (fun (W : World) (hW : RZ W R g T n c J E d 0 0) => (show Calls Tryd.prog 48 #[.pointer (some ⟨R, 0, none⟩), .string ⟨#[41]⟩] W (fun e w' => e = .returned (.bool false) ∧ ∃ j, w' = W.drewN j) from is_any W R g n c J T E d 0 0 hW [41] false (fun a b => hT.kw _ (getD_mem (by rw [h.hn]; exact a)) (by rw [b]; decide)) (by symm; exact decide_eq_false hcl)))
  clear h hlg hId hIn hT hw hd32 HX1 hcl
  go_enter Tryd.func84, Tryd.ntmps84
  go_wp2_with fail
  refine (HI40.out _ Z0.out).mono ?_
  rintro e w1 ⟨rfl, j1, e1⟩
  have Z1 := Lib.hid (show RZ w1 R g T n c I E d 0 0 by rw [e1]; exact Z0.out.keep (below_drewN (Below.refl _ _) (Nat.le_refl _)))
  have F1 := Lib.hid (show Fr (fun k => k = R) w w1 by rw [e1]; exact F0.out.drewN _)
  clear e1
  obtain ⟨-, c1, -, c3, -, -⟩ := Z1.out.c0
  have f1 := frozen_of_row _ _ 1 _ _ Z1.out.blk
  have f3 := frozen_of_row _ _ 3 _ _ Z1.out.blk
  have hR1 := Z1.out.lt
  go_wp2_with fail
  refine (HXX.out _ ((Z1.out.setI (I + 1) _ (by omega)).setD ((d + 1 : Nat) : Int) _ (by omega)) (by have := HB.out.1; have := F1.out.size; simp; omega)).mono ?_
  rintro e w2 ⟨A, m, k, l, rfl, o2, f2, hm2, I', fa, fc, z2, hI', ok2⟩
  have O2 := Lib.hid (o2.base (B' := w.heap.size) (by have := F1.out.size; simp; omega))
  have F2 := Lib.hid (((F1.out.setR 1 _).setR 3 _).trans f2)
  have Z2 := Lib.hid z2
  clear o2 f2 z2 c1 c3 f1 f3 HXX
  obtain ⟨rfl, rfl, rfl, hIJ, hI'n, htl, hmJ⟩ := ok2
  obtain rfl : I' = J := tl_inj HB.out.2.2.2 htl hI'n hJle
  have K2 := Lib.hid (And.intro hI' (And.intro hm2 hmJ))
  clear htl hI' hmJ
  obtain ⟨-, -, -, c3, -, c5⟩ := Z2.out.c0
  have f3 := frozen_of_row _ _ 3 _ _ Z2.out.blk
  have hR2 := Z2.out.lt
  go_wp2_with fail
  have Z3 := Lib.hid (Z2.out.setD (d : Int) ((d : Int)) rfl)
  refine (HI41.out _ Z3.out).mono ?_
  rintro e w3 ⟨rfl, j3, e3⟩
  have Z4 := Lib.hid (show RZ w3 R g T n c I' E d 0 0 by rw [e3]; exact Z3.out.keep (below_drewN (Below.refl _ _) (Nat.le_refl _)))
  have f23 := (show Fr (fun k => k = R) w2 w3 by rw [e3]; exact ((Fr.refl (fun k => k = R) w2).setR 3 (.int .i64 (d : Int))).drewN _)
  have F4 := Lib.hid (F2.out.trans f23)
  have O4 := Lib.hid (O2.out.far f23 Z2.out.blk)
  clear e3 f23 HI41 c3 c5 f3 hR2
  go_wp2_with fail
  refine (no_any _ R g n c I' T E d 0 0 42 Z4.out).mono ?_
  rintro e w9 ⟨rfl, z9, f9⟩
  have Z9 := Lib.hid z9
  have F9 := Lib.hid (F4.out.trans f9)
  clear z9 f9
  go_wp2
  refine bodyPost_ret (v := .slice none 0 0) (by simp [results, Tryd.results84, go_sem]) rfl ?_
  exact ⟨none, 0, 0, [], rfl, OI.nil _ _, F9.out, Nat.zero_le _, I', _, 42, Z9.out, by have := K2.out.1; omega, rfl, rfl, rfl⟩
set_option maxRecDepth 100000 in
set_option maxHeartbeats 1600000 in
theorem opd_b3 (its : List It) (J : Nat) (w : World) (R g n c I : Nat) (T : List Tk) (E : Int) (d : Nat) (h : RZ w R g T n c I E d 0 0) (hlg : g < w.heap.size) (hn7 : n ≤ 1000000) (hT : LT T) (hJle : J ≤ n) (hId : I + d ≤ n + 32) (hIn : I ≤ n) (hI : I < n) (hw : (T.getD I default).w = [40]) (hd32 : d < 32) (HX1 : ∀ W : World, RZ W R g T n c (I + 1) E ((d + 1 : Nat) : Int) 0 0 → g < W.heap.size → Calls Tryd.prog 70 #[.pointer (some ⟨R, 0, none⟩)] W (ExAns W R g T n c (I + 1) E (d + 1) (.ok its (tl T E J)))) (hJn : J < n) (hcl : (T.getD J default).w = [41]) : Calls Tryd.prog 84 #[.pointer (some ⟨R, 0, none⟩)] w (ExAns w R g T n c I E d (.ok its (tl T E (J + 1)))) := by
  have hRl := h.lt
  have Z0 := Lib.hid h
  have F0 := Lib.hid (Fr.refl (fun k => k = R) w)
  have HB := Lib.hid (And.intro hlg (And.intro hId (And.intro hIn h.hn)))
  have HI40 := Lib.hid (fun (W : World) (hW : RZ W R g T n c I E d 0 0) => (show Calls Tryd.prog 48 #[.pointer (some ⟨R, 0, none⟩), .string ⟨#[40]⟩] W (fun e w' => e = .returned (.bool true) ∧ ∃ j, w' = W.drewN j) from is_any W R g n c I T E d 0 0 hW [40] true (fun a b => hT.kw _ (getD_mem (by rw [h.hn]; exact a)) (by rw [b]; decide)) (by symm; exact decide_eq_true ⟨hI, hw⟩)))
  have HXX := Lib.hid HX1
  have hd3 : ((d : Int) == 32) = false := by simp; omega
  have hd7 : d < 32 := hd32
  have HI41 := Lib.hid (fun (W : World) (hW : RZ W R g T n c J E d 0 0) => (show Calls Tryd.prog 48 #[.pointer (some ⟨R, 0, none⟩), .string ⟨#[41]⟩] W (fun e w' => e = .returned (.bool true) ∧ ∃ j, w' = W.drewN j) from is_any W R g n c J T E d 0 0 hW [41] true (fun a b => hT.kw _ (getD_mem (by rw [h.hn]; exact a)) (by rw [b]; decide)) (by symm; exact decide_eq_true ⟨hJn, hcl⟩)))
  clear h hlg hId hIn hT hw hd32 HX1 hcl
  go_enter Tryd.func84, Tryd.ntmps84
  go_wp2_with fail
  refine (HI40.out _ Z0.out).mono ?_
  rintro e w1 ⟨rfl, j1, e1⟩
  have Z1 := Lib.hid (show RZ w1 R g T n c I E d 0 0 by rw [e1]; exact Z0.out.keep (below_drewN (Below.refl _ _) (Nat.le_refl _)))
  have F1 := Lib.hid (show Fr (fun k => k = R) w w1 by rw [e1]; exact F0.out.drewN _)
  clear e1
  obtain ⟨-, c1, -, c3, -, -⟩ := Z1.out.c0
  have f1 := frozen_of_row _ _ 1 _ _ Z1.out.blk
  have f3 := frozen_of_row _ _ 3 _ _ Z1.out.blk
  have hR1 := Z1.out.lt
  go_wp2_with fail
  refine (HXX.out _ ((Z1.out.setI (I + 1) _ (by omega)).setD ((d + 1 : Nat) : Int) _ (by omega)) (by have := HB.out.1; have := F1.out.size; simp; omega)).mono ?_
  rintro e w2 ⟨A, m, k, l, rfl, o2, f2, hm2, I', fa, fc, z2, hI', ok2⟩
  have O2 := Lib.hid (o2.base (B' := w.heap.size) (by have := F1.out.size; simp; omega))
  have F2 := Lib.hid (((F1.out.setR 1 _).setR 3 _).trans f2)
  have Z2 := Lib.hid z2
  clear o2 f2 z2 c1 c3 f1 f3 HXX
  obtain ⟨rfl, rfl, rfl, hIJ, hI'n, htl, hmJ⟩ := ok2
  obtain rfl : I' = J := tl_inj HB.out.2.2.2 htl hI'n hJle
  have K2 := Lib.hid (And.intro hI' (And.intro hm2 hmJ))
  clear htl hI' hmJ
  obtain ⟨-, -, -, c3, -, c5⟩ := Z2.out.c0
  have f3 := frozen_of_row _ _ 3 _ _ Z2.out.blk
  have hR2 := Z2.out.lt
  go_wp2_with fail
  have Z3 := Lib.hid (Z2.out.setD (d : Int) ((d : Int)) rfl)
  refine (HI41.out _ Z3.out).mono ?_
  rintro e w3 ⟨rfl, j3, e3⟩
  have Z4 := Lib.hid (show RZ w3 R g T n c I' E d 0 0 by rw [e3]; exact Z3.out.keep (below_drewN (Below.refl _ _) (Nat.le_refl _)))
  have f23 := (show Fr (fun k => k = R) w2 w3 by rw [e3]; exact ((Fr.refl (fun k => k = R) w2).setR 3 (.int .i64 (d : Int))).drewN _)
  have F4 := Lib.hid (F2.out.trans f23)
  have O4 := Lib.hid (O2.out.far f23 Z2.out.blk)
  clear e3 f23 HI41 c3 c5 f3 hR2
  obtain ⟨-, c1, -⟩ := Z4.out.c0
  have f1 := frozen_of_row _ _ 1 _ _ Z4.out.blk
  have hR4 := Z4.out.lt
  go_wp2
  refine bodyPost_ret (v := .slice A m k) (by simp [results, Tryd.results84, go_sem]) rfl ?_
  exact ⟨A, m, k, l, rfl, O4.out.far ((Fr.refl (fun k => k = R) w3).setR 1 (.int .i64 ((I' : Int) + 1))) Z4.out.blk, F4.out.setR 1 _, by have := K2.out.2.1; omega, I' + 1, 0, 0, Z4.out.setI (I' + 1) ((I' : Int) + 1) (by omega), by have := K2.out.1; omega, rfl, rfl, rfl, by omega, by omega, rfl, by have := K2.out.2.2; omega⟩
end Go.Proofs.YthdognmppbckbaaDoor
