/- Layer 4, put together: ParZi, ParZj. -/
import Derived.Test.YthdognmppbckbaaDoorZPu
import Derived.BigRegion
import Derived.Deep.LoopGhost
/- The document's input. Written by gen_zi.py. -/
namespace Go.Proofs.YthdognmppbckbaaDoor
open Go.RowKit
set_option linter.unusedVariables false
def InAns (w : World) (R g : Nat) (T : List Tk) (n c : Nat) (E : Int) (x : Int × Int ⊕ Inp) (e : Ending) (w' : World) : Prop :=
  ∃ (nm : List UInt8) (pl : Int) (A : Option Addr) (m k : Nat), e = .returned (.agg #[.string (bs nm), .int .i64 pl, .slice A m k]) ∧ Fr (fun k => k = R) w w' ∧ ∃ I' fa fc, RZ w' R g T n c I' E (0 : Nat) fa fc ∧ match x with
    | .inl y => fa = y.1 ∧ fc = y.2 ∧ (y.2 != 0) = true
    | .inr y => fa = 0 ∧ fc = 0 ∧ nm = y.nm ∧ pl = y.pl ∧ m = y.sd.length ∧ RdS w' A y.sd ∧ m ≤ k
/-- A line that begins with in, without that word. -/
def inT (T : List Tk) (E : Int) : Int × Int ⊕ Inp :=
  if 1 < T.length then (if nameB (T.getD 1 default).w = false then .inl ((T.getD 1 default).a, 41) else match sidesR (T.drop 2) [] with
    | .err a e => .inl (a, e)
    | .ok sd => .inr ⟨(T.getD 1 default).w, (T.getD 1 default).a, sd⟩) else .inl (E, 42)
/-- Within input: the result's block, the input's, its row. -/
structure IJ (w wx : World) (R g : Nat) (T : List Tk) (n c K : Nat) (E : Int) (fa fc : Int) (X : Nat) (nm : List UInt8) (a : Int) (k : Nat) (A : Option Addr) (ck : Nat) (sd : List (List UInt8 × Int)) : Prop where
  rz : RZ wx R g T n c K E (0 : Nat) fa fc
  fr : Fr (fun k => k = R) w wx
  res : wx.heap[w.heap.size]? = some (.cells #[.string ⟨#[]⟩, .int .i64 0, .slice none 0 0] 44 (0, 0))
  box : wx.heap[X]? = some (.cells #[.string (bs nm), .int .i64 a, .slice A k ck] 44 (0, 0))
  hX : w.heap.size < X
  own : wx.ownsRow (X + 1) 80 2 (.slice A k ck) k (sd.flatMap scell)
  hl : sd.length = k
  hR : R < w.heap.size
theorem IJ.keep {w wx wy : World} {R g : Nat} {T : List Tk} {n c K : Nat} {E fa fc : Int} {X : Nat} {nm : List UInt8} {a : Int} {k : Nat} {A : Option Addr} {ck : Nat} {sd : List (List UInt8 × Int)} (h : IJ w wx R g T n c K E fa fc X nm a k A ck sd) (hb : Below wx.heap.size wx wy) : IJ w wy R g T n c K E fa fc X nm a k A ck sd :=
  ⟨h.rz.keep hb, h.fr.trans (below_fr hb _), (hb.block _ (heap_lt h.res)).trans h.res, (hb.block _ (heap_lt h.box)).trans h.box, h.hX, row_keep h.own (fun j _ hj => hb.block j hj) (Nat.le_refl _), h.hl, h.hR⟩
/-- A step that changes the reader alone. -/
theorem IJ.fz {w wx wy : World} {R g : Nat} {T : List Tk} {n c K K' : Nat} {E fa fc fa' fc' : Int} {X : Nat} {nm : List UInt8} {a : Int} {k : Nat} {A : Option Addr} {ck : Nat} {sd : List (List UInt8 × Int)} (h : IJ w wx R g T n c K E fa fc X nm a k A ck sd) (hz : RZ wy R g T n c K' E (0 : Nat) fa' fc') (F : Fr (fun k => k = R) wx wy) : IJ w wy R g T n c K' E fa' fc' X nm a k A ck sd := by
  have hR := h.hR
  have hX := h.hX
  exact ⟨hz, h.fr.trans F, (F.block _ (heap_lt h.res) (by omega)).trans h.res, (F.block _ (heap_lt h.box) (by omega)).trans h.box, h.hX, row_keep h.own (fun j hk hj => F.block j hj (by have := (row_base h.own hk).1; omega)) (Nat.le_refl _), h.hl, h.hR⟩
theorem IJ.cells {w wx : World} {R g : Nat} {T : List Tk} {n c K : Nat} {E fa fc : Int} {X : Nat} {nm : List UInt8} {a : Int} {k : Nat} {A : Option Addr} {ck : Nat} {sd : List (List UInt8 × Int)} (h : IJ w wx R g T n c K E fa fc X nm a k A ck sd) : wx.cell? ⟨X, 0, none⟩ = some (.string (bs nm)) ∧ wx.cell? ⟨X, 1, none⟩ = some (.int .i64 a) ∧ wx.cell? ⟨X, 2, none⟩ = some (.slice A k ck) ∧ wx.cell? ⟨w.heap.size, 0, none⟩ = some (.string ⟨#[]⟩) ∧ wx.cell? ⟨w.heap.size, 1, none⟩ = some (.int .i64 0) ∧ wx.cell? ⟨w.heap.size, 2, none⟩ = some (.slice none 0 0) := by
  refine ⟨?_, ?_, ?_, ?_, ?_, ?_⟩
  · rw [cell_of_row _ _ _ _ _ _ h.box]; rfl
  · rw [cell_of_row _ _ _ _ _ _ h.box]; rfl
  · rw [cell_of_row _ _ _ _ _ _ h.box]; rfl
  · rw [cell_of_row _ _ _ _ _ _ h.res]; rfl
  · rw [cell_of_row _ _ _ _ _ _ h.res]; rfl
  · rw [cell_of_row _ _ _ _ _ _ h.res]; rfl
theorem IJ.frz {w wx : World} {R g : Nat} {T : List Tk} {n c K : Nat} {E fa fc : Int} {X : Nat} {nm : List UInt8} {a : Int} {k : Nat} {A : Option Addr} {ck : Nat} {sd : List (List UInt8 × Int)} (h : IJ w wx R g T n c K E fa fc X nm a k A ck sd) : (∀ o, wx.frozen? ⟨X, o, none⟩ = false) ∧ (∀ o, wx.frozen? ⟨w.heap.size, o, none⟩ = false) := ⟨fun o => frozen_of_row _ _ _ _ _ h.box, fun o => frozen_of_row _ _ _ _ _ h.res⟩
theorem IJ.done {w wx : World} {R g : Nat} {T : List Tk} {n c K : Nat} {E fa fc : Int} {X : Nat} {nm : List UInt8} {a : Int} {k : Nat} {A : Option Addr} {ck : Nat} {sd : List (List UInt8 × Int)} (h : IJ w wx R g T n c K E fa fc X nm a k A ck sd) (v0 v1 v2 : Value) :
    Fr (fun k => k = R) w (((wx.setCell ⟨w.heap.size, 0, none⟩ v0).setCell ⟨w.heap.size, 1, none⟩ v1).setCell ⟨w.heap.size, 2, none⟩ v2) ∧ (g < w.heap.size → RZ (((wx.setCell ⟨w.heap.size, 0, none⟩ v0).setCell ⟨w.heap.size, 1, none⟩ v1).setCell ⟨w.heap.size, 2, none⟩ v2) R g T n c K E (0 : Nat) fa fc) ∧ RdS (((wx.setCell ⟨w.heap.size, 0, none⟩ v0).setCell ⟨w.heap.size, 1, none⟩ v1).setCell ⟨w.heap.size, 2, none⟩ v2) A sd ∧ k ≤ ck := by
  have hR := h.hR
  have hX := h.hX
  refine ⟨((h.fr.set (b := w.heap.size) (.inr (Nat.le_refl _)) 0 v0).set (b := w.heap.size) (.inr (Nat.le_refl _)) 1 v1).set (b := w.heap.size) (.inr (Nat.le_refl _)) 2 v2, fun hg => ((h.rz.far (by omega) (by omega) 0 v0).far (by omega) (by omega) 1 v1).far (by omega) (by omega) 2 v2, ?_, ?_⟩
  · have h1 := h.own
    obtain ⟨l1⟩ := h.hl
    have h2 : (((wx.setCell ⟨w.heap.size, 0, none⟩ v0).setCell ⟨w.heap.size, 1, none⟩ v1).setCell ⟨w.heap.size, 2, none⟩ v2).ownsRow (X + 1) 80 2 (.slice A sd.length ck) sd.length (sd.flatMap scell) := row_keep h1 (fun j hj _ => by
      have := (row_base h1 hj).1
      rw [Fr.set.heap_set_other (by omega), Fr.set.heap_set_other (by omega), Fr.set.heap_set_other (by omega)]) (Nat.le_refl _)
    exact sides_read h2
  · obtain ⟨_, _, e, hc⟩ := row_shape h.own
    injection e with _ _ e3
    subst e3
    exact hc
theorem IJ.step {w wx : World} {R g : Nat} {T : List Tk} {n c K : Nat} {E fa fc : Int} {X : Nat} {nm : List UInt8} {a : Int} {k : Nat} {A : Option Addr} {ck : Nat} {sd : List (List UInt8 × Int)} (h : IJ w wx R g T n c K E fa fc X nm a k A ck sd) (hg : g < w.heap.size) {w4 : World} {x : Obj} {q cap : Nat} {y : List UInt8 × Int}
    (hgrow : (wx.alloc x).grownBy w4 (Value.slice A k ck).ownBlock) (hown : w4.ownsRow (X + 1) 80 2 (.slice (some ⟨q, 0, none⟩) (k + 1) cap) (k + 1) (sd.flatMap scell ++ scell y)) :
    IJ w (w4.setCell ⟨X, 2, none⟩ (.slice (some ⟨q, 0, none⟩) (k + 1) cap)) R g T n c K E fa fc X nm a (k + 1) (some ⟨q, 0, none⟩) cap (sd ++ [y]) ∧ w4.heap[R]? = wx.heap[R]? := by
  have hR := h.hR
  have hX := h.hX
  have hl := heap_lt h.box
  have hxs : (wx.alloc x).heap.size = wx.heap.size + 1 := by simp
  have hb0 : ∀ j, (Value.slice A k ck).ownBlock = some j → X + 1 ≤ j := fun j hj => (row_base h.own hj).1
  have hbx : Below (X + 1) wx w4 := ((Below.refl (X + 1) wx).alloc hl x).grown hgrow (by rw [hxs]; omega) hb0
  have hbw : Below w.heap.size wx w4 := hbx.mono (by omega)
  refine ⟨⟨(h.rz.at hbw hR hg).far (by omega) (by omega) 2 _, (h.fr.up hbw).set (b := X) (.inr (by omega)) 2 _, ?_, ?_, hX, ?_, by rw [List.length_append, h.hl]; rfl, hR⟩, hbw.block _ hR⟩
  · rw [Fr.set.heap_set_other (by omega)]; exact (hbx.block _ (by omega)).trans h.res
  · rw [heap_setCell_same _ _ _ _ _ _ ((hbx.block X (by omega)).trans h.box)]; rfl
  · have e : (sd ++ [y]).flatMap scell = sd.flatMap scell ++ scell y := by simp
    rw [e]
    exact row_keep hown (fun j hj _ => Fr.set.heap_set_other (by have := (row_base hown hj).1; omega)) (Nat.le_refl _)
set_option maxRecDepth 100000 in
set_option maxHeartbeats 3200000 in
theorem in_a (w : World) (R g n c : Nat) (I0 : Nat) (T : List Tk) (E : Int) (h : RZ w R g T n c I0 E (0 : Nat) 0 0) (hlg : g < w.heap.size) (hn7 : n ≤ 1000000) (hT : LT T) (hkk : ∀ t ∈ T, t.k = 1 ∨ t.k = 2 ∨ t.k = 3) (hn1 : ¬ 1 < n) : Calls Tryd.prog 49 #[.pointer (some ⟨R, 0, none⟩)] w (InAns w R g T n c E (.inl (E, 42))) := by
  have hRl := h.lt
  have hnn := h.hn
  have HZ := Lib.hid h
  have HB := Lib.hid (And.intro hlg hRl)
  obtain ⟨c0, c1, -, -, -, -⟩ := h.c0
  have f1 := frozen_of_row _ _ 1 _ _ h.blk
  obtain ⟨pa, hpa⟩ : ∃ pa, pa = E := ⟨_, rfl⟩
  have HPL := Lib.hid (show placeR T 1 E = pa by rw [hpa]; unfold placeR; rw [if_neg (by omega)])
  have HPN := HPL
  have hd : decide ((n : Int) ≤ 1) = true := by simp; omega
  have HPA := Lib.hid hpa
  clear h hT hkk hlg hpa
  go_enter Tryd.func49, Tryd.ntmps49
  go_wp2_with fail
  have Z1 := Lib.hid ((HZ.out.setI 1 1 rfl).up (.cells #[.string ⟨#[]⟩, .int .i64 0, .slice none 0 0] 44))
  have B1 := Lib.hid (show ((w.setCell ⟨R, 1, none⟩ (.int .i64 1)).alloc (.cells #[.string ⟨#[]⟩, .int .i64 0, .slice none 0 0] 44)).heap[w.heap.size]? = some (.cells #[.string ⟨#[]⟩, .int .i64 0, .slice none 0 0] 44 (0, 0)) by have := heap_alloc_new (w.setCell ⟨R, 1, none⟩ (.int .i64 1)) (.cells #[.string ⟨#[]⟩, .int .i64 0, .slice none 0 0] 44); rw [show (w.setCell ⟨R, 1, none⟩ (.int .i64 1)).heap.size = w.heap.size by simp] at this; exact this)
  have F1 := Lib.hid (((Fr.refl (fun k => k = R) w).setR 1 (.int .i64 1)).alloc (.cells #[.string ⟨#[]⟩, .int .i64 0, .slice none 0 0] 44))
  refine (place_any _ R g n c 1 T E (0 : Nat) 0 0 Z1.out).mono ?_
  rintro e w2 ⟨rfl, j2, e2⟩
  have Z2 := Lib.hid (show RZ w2 R g T n c 1 E (0 : Nat) 0 0 by rw [e2]; exact Z1.out.keep (below_drewN (Below.refl _ _) (Nat.le_refl _)))
  have B2 := Lib.hid (show w2.heap[w.heap.size]? = some (.cells #[.string ⟨#[]⟩, .int .i64 0, .slice none 0 0] 44 (0, 0)) by rw [e2]; exact B1.out)
  have F2 := Lib.hid (show Fr (fun k => k = R) w w2 by rw [e2]; exact F1.out.drewN _)
  rw [HPL.out]
  clear e2 Z1 B1 F1 c0 c1 f1
  have hz2 := heap_lt B2.out
  have hR2 := Z2.out.lt
  have hg2 := Z2.out.lg
  have J3 := Lib.hid (show IJ w (w2.alloc (.cells #[.string ⟨#[]⟩, .int .i64 pa, .slice none 0 0] 44)) R g T n c 1 E 0 0 w2.heap.size [] pa 0 none 0 [] from ⟨Z2.out.up _, F2.out.alloc _, (heap_alloc_old w2 _ hz2).trans B2.out, heap_alloc_new w2 _, by omega, World.ownsRow_nil _ _ _ _, rfl, HB.out.2⟩)
  obtain ⟨w3, hw3⟩ : ∃ w3, w3 = w2.alloc (.cells #[.string ⟨#[]⟩, .int .i64 pa, .slice none 0 0] 44) := ⟨_, rfl⟩
  rw [← hw3] at J3
  obtain ⟨c0, c1, -, -, -, -⟩ := J3.out.rz.c0
  have u0 := fun j => (show (w3.drewN j).cell? ⟨R, 0, none⟩ = some (.slice (some ⟨g, 0, none⟩) n c) from c0)
  have u1 := fun j => (show (w3.drewN j).cell? ⟨R, 1, none⟩ = some (.int .i64 1) from c1)
  clear c0 c1
  obtain ⟨X, hX⟩ : ∃ X, X = w2.heap.size := ⟨_, rfl⟩
  rw [← hX] at J3
  go_wp2
  rw [← hw3, ← hX]
  clear hw3 hX
  go_quiet (fail)
  obtain ⟨w4, hw4⟩ : ∃ w4, w4 = w3.drewN nq := ⟨_, rfl⟩
  rw [← hw4]
  have J4 := Lib.hid (show IJ w w4 R g T n c 1 E 0 0 X [] pa 0 none 0 [] by rw [hw4]; exact J3.out.keep (below_drewN (Below.refl _ _) (Nat.le_refl _)))
  clear hw4 u0 u1 J3 hz2 hR2 hg2 Z2 B2 F2
  go_wp2_with fail
  refine (no_any _ R g n c 1 T E (0 : Nat) 0 0 42 J4.out.rz).mono ?_
  rintro e w9 ⟨rfl, z9, f9⟩
  rw [HPN.out] at z9
  have J9 := Lib.hid (J4.out.fz z9 f9)
  clear z9 f9
  obtain ⟨b0, b1, b2, r0, r1, r2⟩ := J9.out.cells
  obtain ⟨bf, rf⟩ := J9.out.frz
  have rf0 := rf 0
  have rf1 := rf 1
  have rf2 := rf 2
  have hXr : ¬ X = w.heap.size := by have := J9.out.hX; omega
  have hrX : ¬ w.heap.size = X := fun e => hXr e.symm
  have hXl := heap_lt J9.out.box
  have hrl := heap_lt J9.out.res
  clear bf rf
  go_wp2
  have D := Lib.hid (J9.out.done (.string (bs [])) (.int .i64 pa) (.slice none 0 0))
  refine bodyPost_ret (v := .agg #[.string (bs []), .int .i64 pa, .slice none 0 0]) (by simp [results, Tryd.results49, go_sem, r0, r1, r2]) rfl ?_
  obtain rfl := HPA.out
  exact ⟨_, _, _, _, _, rfl, D.out.1, 1, pa, 42, D.out.2.1 HB.out.1, rfl, rfl, rfl⟩
set_option maxRecDepth 100000 in
set_option maxHeartbeats 3200000 in
theorem in_b1 (w : World) (R g n c : Nat) (I0 : Nat) (T : List Tk) (E : Int) (h : RZ w R g T n c I0 E (0 : Nat) 0 0) (hlg : g < w.heap.size) (hn7 : n ≤ 1000000) (hT : LT T) (hkk : ∀ t ∈ T, t.k = 1 ∨ t.k = 2 ∨ t.k = 3) (hn1 : 1 < n) (hk1 : ¬ (T.getD 1 default).k = 1) : Calls Tryd.prog 49 #[.pointer (some ⟨R, 0, none⟩)] w (InAns w R g T n c E (.inl ((T.getD 1 default).a, 41))) := by
  have hRl := h.lt
  have hnn := h.hn
  have HZ := Lib.hid h
  have HB := Lib.hid (And.intro hlg hRl)
  obtain ⟨c0, c1, -, -, -, -⟩ := h.c0
  have f1 := frozen_of_row _ _ 1 _ _ h.blk
  obtain ⟨t, ht⟩ : ∃ t, t = T.getD 1 default := ⟨_, rfl⟩
  obtain ⟨pa, hpa⟩ : ∃ pa, pa = t.a := ⟨_, rfl⟩
  have HPL := Lib.hid (show placeR T 1 E = pa by rw [hpa, ht]; unfold placeR; rw [if_pos (by omega)])
  have HPN := HPL
  have HTT := Lib.hid ht
  have hd : decide ((n : Int) ≤ 1) = false := by simp; omega
  have q1 : ∀ W : World, (Instr.indexAt 57 (.slice (some ⟨g, 0, none⟩) n c) (.int .i64 1)).run Tryd.prog W = .ok (.pointer (some ⟨g, 4, none⟩)) W := fun W => idxTo g n c 1 (by omega) W
  rw [← ht] at hk1 ⊢
  rw [← hpa]
  have hkb : (t.k != 1) = true := by simpa using hk1
  have hkb2 : (t.k == 1) = false := by simpa using hk1
  clear h hT hkk hlg hk1 ht hpa
  go_enter Tryd.func49, Tryd.ntmps49
  go_wp2_with fail
  have Z1 := Lib.hid ((HZ.out.setI 1 1 rfl).up (.cells #[.string ⟨#[]⟩, .int .i64 0, .slice none 0 0] 44))
  have B1 := Lib.hid (show ((w.setCell ⟨R, 1, none⟩ (.int .i64 1)).alloc (.cells #[.string ⟨#[]⟩, .int .i64 0, .slice none 0 0] 44)).heap[w.heap.size]? = some (.cells #[.string ⟨#[]⟩, .int .i64 0, .slice none 0 0] 44 (0, 0)) by have := heap_alloc_new (w.setCell ⟨R, 1, none⟩ (.int .i64 1)) (.cells #[.string ⟨#[]⟩, .int .i64 0, .slice none 0 0] 44); rw [show (w.setCell ⟨R, 1, none⟩ (.int .i64 1)).heap.size = w.heap.size by simp] at this; exact this)
  have F1 := Lib.hid (((Fr.refl (fun k => k = R) w).setR 1 (.int .i64 1)).alloc (.cells #[.string ⟨#[]⟩, .int .i64 0, .slice none 0 0] 44))
  refine (place_any _ R g n c 1 T E (0 : Nat) 0 0 Z1.out).mono ?_
  rintro e w2 ⟨rfl, j2, e2⟩
  have Z2 := Lib.hid (show RZ w2 R g T n c 1 E (0 : Nat) 0 0 by rw [e2]; exact Z1.out.keep (below_drewN (Below.refl _ _) (Nat.le_refl _)))
  have B2 := Lib.hid (show w2.heap[w.heap.size]? = some (.cells #[.string ⟨#[]⟩, .int .i64 0, .slice none 0 0] 44 (0, 0)) by rw [e2]; exact B1.out)
  have F2 := Lib.hid (show Fr (fun k => k = R) w w2 by rw [e2]; exact F1.out.drewN _)
  rw [HPL.out]
  clear e2 Z1 B1 F1 c0 c1 f1
  have hz2 := heap_lt B2.out
  have hR2 := Z2.out.lt
  have hg2 := Z2.out.lg
  have J3 := Lib.hid (show IJ w (w2.alloc (.cells #[.string ⟨#[]⟩, .int .i64 pa, .slice none 0 0] 44)) R g T n c 1 E 0 0 w2.heap.size [] pa 0 none 0 [] from ⟨Z2.out.up _, F2.out.alloc _, (heap_alloc_old w2 _ hz2).trans B2.out, heap_alloc_new w2 _, by omega, World.ownsRow_nil _ _ _ _, rfl, HB.out.2⟩)
  obtain ⟨w3, hw3⟩ : ∃ w3, w3 = w2.alloc (.cells #[.string ⟨#[]⟩, .int .i64 pa, .slice none 0 0] 44) := ⟨_, rfl⟩
  rw [← hw3] at J3
  obtain ⟨c0, c1, -, -, -, -⟩ := J3.out.rz.c0
  have u0 := fun j => (show (w3.drewN j).cell? ⟨R, 0, none⟩ = some (.slice (some ⟨g, 0, none⟩) n c) from c0)
  have u1 := fun j => (show (w3.drewN j).cell? ⟨R, 1, none⟩ = some (.int .i64 1) from c1)
  clear c0 c1
  obtain ⟨X, hX⟩ : ∃ X, X = w2.heap.size := ⟨_, rfl⟩
  rw [← hX] at J3
  go_wp2
  rw [← hw3, ← hX]
  clear hw3 hX
  go_quiet (fail)
  obtain ⟨w4, hw4⟩ : ∃ w4, w4 = w3.drewN nq := ⟨_, rfl⟩
  rw [← hw4]
  have J4 := Lib.hid (show IJ w w4 R g T n c 1 E 0 0 X [] pa 0 none 0 [] by rw [hw4]; exact J3.out.keep (below_drewN (Below.refl _ _) (Nat.le_refl _)))
  clear hw4 u0 u1 J3 hz2 hR2 hg2 Z2 B2 F2
  obtain ⟨c0, c1, -, -, -, -⟩ := J4.out.rz.c0
  obtain ⟨k0, k1, k2, -⟩ := J4.out.rz.tok 1 hn1
  rw [← HTT.out] at k0 k1 k2
  replace k0 : w4.cell? ⟨g, 4, none⟩ = some (.int .i64 t.k) := k0
  replace k2 : w4.cell? ⟨g, 6, none⟩ = some (.string (bs t.w)) := k2
  have hR4 := J4.out.rz.lt
  go_wp2_with fail
  refine (no_any _ R g n c 1 T E (0 : Nat) 0 0 41 J4.out.rz).mono ?_
  rintro e w9 ⟨rfl, z9, f9⟩
  rw [HPN.out] at z9
  clear c0 c1 k0 k1 k2 hR4
  have J9 := Lib.hid (J4.out.fz z9 f9)
  clear z9 f9
  obtain ⟨b0, b1, b2, r0, r1, r2⟩ := J9.out.cells
  obtain ⟨bf, rf⟩ := J9.out.frz
  have rf0 := rf 0
  have rf1 := rf 1
  have rf2 := rf 2
  have hXr : ¬ X = w.heap.size := by have := J9.out.hX; omega
  have hrX : ¬ w.heap.size = X := fun e => hXr e.symm
  have hXl := heap_lt J9.out.box
  have hrl := heap_lt J9.out.res
  clear bf rf
  go_wp2
  have D := Lib.hid (J9.out.done (.string (bs [])) (.int .i64 pa) (.slice none 0 0))
  refine bodyPost_ret (v := .agg #[.string (bs []), .int .i64 pa, .slice none 0 0]) (by simp [results, Tryd.results49, go_sem, r0, r1, r2]) rfl ?_
  exact ⟨_, _, _, _, _, rfl, D.out.1, 1, pa, 41, D.out.2.1 HB.out.1, rfl, rfl, rfl⟩
set_option maxRecDepth 100000 in
set_option maxHeartbeats 3200000 in
theorem in_b2 (w : World) (R g n c : Nat) (I0 : Nat) (T : List Tk) (E : Int) (h : RZ w R g T n c I0 E (0 : Nat) 0 0) (hlg : g < w.heap.size) (hn7 : n ≤ 1000000) (hT : LT T) (hkk : ∀ t ∈ T, t.k = 1 ∨ t.k = 2 ∨ t.k = 3) (hn1 : 1 < n) (hk1 : (T.getD 1 default).k = 1) (hnb : nameB (T.getD 1 default).w = false) : Calls Tryd.prog 49 #[.pointer (some ⟨R, 0, none⟩)] w (InAns w R g T n c E (.inl ((T.getD 1 default).a, 41))) := by
  have hRl := h.lt
  have hnn := h.hn
  have HZ := Lib.hid h
  have HB := Lib.hid (And.intro hlg hRl)
  obtain ⟨c0, c1, -, -, -, -⟩ := h.c0
  have f1 := frozen_of_row _ _ 1 _ _ h.blk
  have htl := hT.len _ (getD_mem (T := T) (I := 1) (by omega))
  obtain ⟨t, ht⟩ : ∃ t, t = T.getD 1 default := ⟨_, rfl⟩
  obtain ⟨pa, hpa⟩ : ∃ pa, pa = t.a := ⟨_, rfl⟩
  have HPL := Lib.hid (show placeR T 1 E = pa by rw [hpa, ht]; unfold placeR; rw [if_pos (by omega)])
  have HPN := HPL
  have HTT := Lib.hid ht
  have hd : decide ((n : Int) ≤ 1) = false := by simp; omega
  have q1 : ∀ W : World, (Instr.indexAt 57 (.slice (some ⟨g, 0, none⟩) n c) (.int .i64 1)).run Tryd.prog W = .ok (.pointer (some ⟨g, 4, none⟩)) W := fun W => idxTo g n c 1 (by omega) W
  rw [← ht] at hk1 ⊢
  rw [← hpa]
  rw [← ht] at hnb htl
  have HNM := Lib.hid (fun W => (show Calls Tryd.prog 18 #[.string (bs t.w)] W (fun e w' => e = .returned (.bool false) ∧ Below W.heap.size W w') from (by have h1 := rname_any t.w W (by omega); rw [hnb] at h1; exact h1)))
  have hkb : (t.k != 1) = false := by rw [hk1]; rfl
  have hkb2 : (t.k == 1) = true := by rw [hk1]; rfl
  clear h hT hkk hlg hk1 hnb ht hpa htl
  go_enter Tryd.func49, Tryd.ntmps49
  go_wp2_with fail
  have Z1 := Lib.hid ((HZ.out.setI 1 1 rfl).up (.cells #[.string ⟨#[]⟩, .int .i64 0, .slice none 0 0] 44))
  have B1 := Lib.hid (show ((w.setCell ⟨R, 1, none⟩ (.int .i64 1)).alloc (.cells #[.string ⟨#[]⟩, .int .i64 0, .slice none 0 0] 44)).heap[w.heap.size]? = some (.cells #[.string ⟨#[]⟩, .int .i64 0, .slice none 0 0] 44 (0, 0)) by have := heap_alloc_new (w.setCell ⟨R, 1, none⟩ (.int .i64 1)) (.cells #[.string ⟨#[]⟩, .int .i64 0, .slice none 0 0] 44); rw [show (w.setCell ⟨R, 1, none⟩ (.int .i64 1)).heap.size = w.heap.size by simp] at this; exact this)
  have F1 := Lib.hid (((Fr.refl (fun k => k = R) w).setR 1 (.int .i64 1)).alloc (.cells #[.string ⟨#[]⟩, .int .i64 0, .slice none 0 0] 44))
  refine (place_any _ R g n c 1 T E (0 : Nat) 0 0 Z1.out).mono ?_
  rintro e w2 ⟨rfl, j2, e2⟩
  have Z2 := Lib.hid (show RZ w2 R g T n c 1 E (0 : Nat) 0 0 by rw [e2]; exact Z1.out.keep (below_drewN (Below.refl _ _) (Nat.le_refl _)))
  have B2 := Lib.hid (show w2.heap[w.heap.size]? = some (.cells #[.string ⟨#[]⟩, .int .i64 0, .slice none 0 0] 44 (0, 0)) by rw [e2]; exact B1.out)
  have F2 := Lib.hid (show Fr (fun k => k = R) w w2 by rw [e2]; exact F1.out.drewN _)
  rw [HPL.out]
  clear e2 Z1 B1 F1 c0 c1 f1
  have hz2 := heap_lt B2.out
  have hR2 := Z2.out.lt
  have hg2 := Z2.out.lg
  have J3 := Lib.hid (show IJ w (w2.alloc (.cells #[.string ⟨#[]⟩, .int .i64 pa, .slice none 0 0] 44)) R g T n c 1 E 0 0 w2.heap.size [] pa 0 none 0 [] from ⟨Z2.out.up _, F2.out.alloc _, (heap_alloc_old w2 _ hz2).trans B2.out, heap_alloc_new w2 _, by omega, World.ownsRow_nil _ _ _ _, rfl, HB.out.2⟩)
  obtain ⟨w3, hw3⟩ : ∃ w3, w3 = w2.alloc (.cells #[.string ⟨#[]⟩, .int .i64 pa, .slice none 0 0] 44) := ⟨_, rfl⟩
  rw [← hw3] at J3
  obtain ⟨c0, c1, -, -, -, -⟩ := J3.out.rz.c0
  have u0 := fun j => (show (w3.drewN j).cell? ⟨R, 0, none⟩ = some (.slice (some ⟨g, 0, none⟩) n c) from c0)
  have u1 := fun j => (show (w3.drewN j).cell? ⟨R, 1, none⟩ = some (.int .i64 1) from c1)
  clear c0 c1
  obtain ⟨X, hX⟩ : ∃ X, X = w2.heap.size := ⟨_, rfl⟩
  rw [← hX] at J3
  go_wp2
  rw [← hw3, ← hX]
  clear hw3 hX
  go_quiet (fail)
  obtain ⟨w4, hw4⟩ : ∃ w4, w4 = w3.drewN nq := ⟨_, rfl⟩
  rw [← hw4]
  have J4 := Lib.hid (show IJ w w4 R g T n c 1 E 0 0 X [] pa 0 none 0 [] by rw [hw4]; exact J3.out.keep (below_drewN (Below.refl _ _) (Nat.le_refl _)))
  clear hw4 u0 u1 J3 hz2 hR2 hg2 Z2 B2 F2
  obtain ⟨c0, c1, -, -, -, -⟩ := J4.out.rz.c0
  obtain ⟨k0, k1, k2, -⟩ := J4.out.rz.tok 1 hn1
  rw [← HTT.out] at k0 k1 k2
  replace k0 : w4.cell? ⟨g, 4, none⟩ = some (.int .i64 t.k) := k0
  replace k2 : w4.cell? ⟨g, 6, none⟩ = some (.string (bs t.w)) := k2
  have hR4 := J4.out.rz.lt
  go_wp2_with fail
  refine (HNM.out _).mono ?_
  rintro e w5 ⟨rfl, g5⟩
  have J5 := Lib.hid (J4.out.keep g5)
  clear g5 c0 c1 k0 k1 k2 hR4
  go_wp2_with fail
  refine (no_any _ R g n c 1 T E (0 : Nat) 0 0 41 J5.out.rz).mono ?_
  rintro e w9 ⟨rfl, z9, f9⟩
  rw [HPN.out] at z9
  have J9 := Lib.hid (J5.out.fz z9 f9)
  clear z9 f9
  obtain ⟨b0, b1, b2, r0, r1, r2⟩ := J9.out.cells
  obtain ⟨bf, rf⟩ := J9.out.frz
  have rf0 := rf 0
  have rf1 := rf 1
  have rf2 := rf 2
  have hXr : ¬ X = w.heap.size := by have := J9.out.hX; omega
  have hrX : ¬ w.heap.size = X := fun e => hXr e.symm
  have hXl := heap_lt J9.out.box
  have hrl := heap_lt J9.out.res
  clear bf rf
  go_wp2
  have D := Lib.hid (J9.out.done (.string (bs [])) (.int .i64 pa) (.slice none 0 0))
  refine bodyPost_ret (v := .agg #[.string (bs []), .int .i64 pa, .slice none 0 0]) (by simp [results, Tryd.results49, go_sem, r0, r1, r2]) rfl ?_
  exact ⟨_, _, _, _, _, rfl, D.out.1, 1, pa, 41, D.out.2.1 HB.out.1, rfl, rfl, rfl⟩
end Go.Proofs.YthdognmppbckbaaDoor
/- The document's input: its sides. Written by gen_zj.py. -/
namespace Go.Proofs.YthdognmppbckbaaDoor
open Go.RowKit
set_option linter.unusedVariables false
theorem sides_cons (t : Tk) (r : List Tk) (l : List (List UInt8 × Int)) : sidesR (t :: r) l = if t.k ≠ 2 ∧ nameB t.w = false then .err t.a 41 else if l.length = 4 then .err t.a 45 else sidesR r (l ++ [(t.w, t.n)]) := rfl
theorem drop_at {T : List Tk} {K : Nat} (h : K < T.length) : T.drop K = T.getD K default :: T.drop (K + 1) := by
  rw [List.drop_eq_getElem_cons h, List.getD_eq_getElem?_getD, List.getElem?_eq_getElem h]; rfl
def inOk (T : List Tk) : Sr → Int × Int ⊕ Inp
  | .err a e => .inl (a, e)
  | .ok sd => .inr ⟨(T.getD 1 default).w, (T.getD 1 default).a, sd⟩
theorem inT_eq {T : List Tk} {E : Int} (h1 : 1 < T.length) (h2 : nameB (T.getD 1 default).w = true) : inT T E = inOk T (sidesR (T.drop 2) []) := by
  unfold inT
  rw [if_pos h1, if_neg (by rw [h2]; decide)]
  unfold inOk
  cases sidesR (T.drop 2) [] <;> rfl
theorem IJ.name {w wx : World} {R g : Nat} {T : List Tk} {n c K : Nat} {E fa fc : Int} {X : Nat} {nm : List UInt8} {a : Int} {k : Nat} {A : Option Addr} {ck : Nat} {sd : List (List UInt8 × Int)} (h : IJ w wx R g T n c K E fa fc X nm a k A ck sd) (hg : g < w.heap.size) (nm' : List UInt8) : IJ w (wx.setCell ⟨X, 0, none⟩ (.string (bs nm'))) R g T n c K E fa fc X nm' a k A ck sd := by
  have hR := h.hR
  have hX := h.hX
  refine ⟨h.rz.far (by omega) (by omega) 0 _, h.fr.set (b := X) (.inr (by omega)) 0 _, ?_, ?_, hX, ?_, h.hl, hR⟩
  · rw [Fr.set.heap_set_other (by omega)]; exact h.res
  · rw [heap_setCell_same _ _ _ _ _ _ h.box]; rfl
  · exact row_keep h.own (fun j hj _ => Fr.set.heap_set_other (by have := (row_base h.own hj).1; omega)) (Nat.le_refl _)
theorem IJ.setK {w wx : World} {R g : Nat} {T : List Tk} {n c K : Nat} {E fa fc : Int} {X : Nat} {nm : List UInt8} {a : Int} {k : Nat} {A : Option Addr} {ck : Nat} {sd : List (List UInt8 × Int)} (h : IJ w wx R g T n c K E fa fc X nm a k A ck sd) (K' : Nat) (v : Int) (hv : v = (K' : Int)) : IJ w (wx.setCell ⟨R, 1, none⟩ (.int .i64 v)) R g T n c K' E fa fc X nm a k A ck sd :=
  h.fz (h.rz.setI K' v hv) ((Fr.refl _ _).setR 1 _)
set_option maxRecDepth 100000 in
set_option maxHeartbeats 12800000 in
theorem in_c (w : World) (R g n c : Nat) (I0 : Nat) (T : List Tk) (E : Int) (h : RZ w R g T n c I0 E (0 : Nat) 0 0) (hlg : g < w.heap.size) (hn7 : n ≤ 1000000) (hT : LT T) (hkk : ∀ t ∈ T, t.k = 1 ∨ t.k = 2 ∨ t.k = 3) (hn1 : 1 < n) (hk1 : (T.getD 1 default).k = 1) (hnb : nameB (T.getD 1 default).w = true) : Calls Tryd.prog 49 #[.pointer (some ⟨R, 0, none⟩)] w (InAns w R g T n c E (inT T E)) := by
  have hRl := h.lt
  have hnn := h.hn
  have HZ := Lib.hid h
  have HB := Lib.hid (And.intro hlg hRl)
  obtain ⟨c0, c1, -, -, -, -⟩ := h.c0
  have f1 := frozen_of_row _ _ 1 _ _ h.blk
  have htl := hT.len _ (getD_mem (T := T) (I := 1) (by omega))
  have HRS := Lib.hid (inT_eq (E := E) (by omega) hnb)
  have HTK := Lib.hid (And.intro hT hkk)
  obtain ⟨t, ht⟩ : ∃ t, t = T.getD 1 default := ⟨_, rfl⟩
  obtain ⟨pa, hpa⟩ : ∃ pa, pa = t.a := ⟨_, rfl⟩
  have HPL := Lib.hid (show placeR T 1 E = pa by rw [hpa, ht]; unfold placeR; rw [if_pos (by omega)])
  have HPN := HPL
  have HTT := Lib.hid ht
  have hd : decide ((n : Int) ≤ 1) = false := by simp; omega
  have q1 : ∀ W : World, (Instr.indexAt 57 (.slice (some ⟨g, 0, none⟩) n c) (.int .i64 1)).run Tryd.prog W = .ok (.pointer (some ⟨g, 4, none⟩)) W := fun W => idxTo g n c 1 (by omega) W
  rw [← ht] at hk1
  rw [← ht] at hnb htl
  have HNM := Lib.hid (fun W => (show Calls Tryd.prog 18 #[.string (bs t.w)] W (fun e w' => e = .returned (.bool true) ∧ Below W.heap.size W w') from (by have h1 := rname_any t.w W (by omega); rw [hnb] at h1; exact h1)))
  have hkb : (t.k != 1) = false := by rw [hk1]; rfl
  have hkb2 : (t.k == 1) = true := by rw [hk1]; rfl
  have HPA := Lib.hid hpa
  clear h hT hkk hlg hk1 hnb ht hpa htl
  go_enter Tryd.func49, Tryd.ntmps49
  go_wp2_with fail
  have Z1 := Lib.hid ((HZ.out.setI 1 1 rfl).up (.cells #[.string ⟨#[]⟩, .int .i64 0, .slice none 0 0] 44))
  have B1 := Lib.hid (show ((w.setCell ⟨R, 1, none⟩ (.int .i64 1)).alloc (.cells #[.string ⟨#[]⟩, .int .i64 0, .slice none 0 0] 44)).heap[w.heap.size]? = some (.cells #[.string ⟨#[]⟩, .int .i64 0, .slice none 0 0] 44 (0, 0)) by have := heap_alloc_new (w.setCell ⟨R, 1, none⟩ (.int .i64 1)) (.cells #[.string ⟨#[]⟩, .int .i64 0, .slice none 0 0] 44); rw [show (w.setCell ⟨R, 1, none⟩ (.int .i64 1)).heap.size = w.heap.size by simp] at this; exact this)
  have F1 := Lib.hid (((Fr.refl (fun k => k = R) w).setR 1 (.int .i64 1)).alloc (.cells #[.string ⟨#[]⟩, .int .i64 0, .slice none 0 0] 44))
  refine (place_any _ R g n c 1 T E (0 : Nat) 0 0 Z1.out).mono ?_
  rintro e w2 ⟨rfl, j2, e2⟩
  have Z2 := Lib.hid (show RZ w2 R g T n c 1 E (0 : Nat) 0 0 by rw [e2]; exact Z1.out.keep (below_drewN (Below.refl _ _) (Nat.le_refl _)))
  have B2 := Lib.hid (show w2.heap[w.heap.size]? = some (.cells #[.string ⟨#[]⟩, .int .i64 0, .slice none 0 0] 44 (0, 0)) by rw [e2]; exact B1.out)
  have F2 := Lib.hid (show Fr (fun k => k = R) w w2 by rw [e2]; exact F1.out.drewN _)
  rw [HPL.out]
  clear e2 Z1 B1 F1 c0 c1 f1
  have hz2 := heap_lt B2.out
  have hR2 := Z2.out.lt
  have hg2 := Z2.out.lg
  have J3 := Lib.hid (show IJ w (w2.alloc (.cells #[.string ⟨#[]⟩, .int .i64 pa, .slice none 0 0] 44)) R g T n c 1 E 0 0 w2.heap.size [] pa 0 none 0 [] from ⟨Z2.out.up _, F2.out.alloc _, (heap_alloc_old w2 _ hz2).trans B2.out, heap_alloc_new w2 _, by omega, World.ownsRow_nil _ _ _ _, rfl, HB.out.2⟩)
  obtain ⟨w3, hw3⟩ : ∃ w3, w3 = w2.alloc (.cells #[.string ⟨#[]⟩, .int .i64 pa, .slice none 0 0] 44) := ⟨_, rfl⟩
  rw [← hw3] at J3
  obtain ⟨c0, c1, -, -, -, -⟩ := J3.out.rz.c0
  have u0 := fun j => (show (w3.drewN j).cell? ⟨R, 0, none⟩ = some (.slice (some ⟨g, 0, none⟩) n c) from c0)
  have u1 := fun j => (show (w3.drewN j).cell? ⟨R, 1, none⟩ = some (.int .i64 1) from c1)
  clear c0 c1
  obtain ⟨X, hX⟩ : ∃ X, X = w2.heap.size := ⟨_, rfl⟩
  rw [← hX] at J3
  go_wp2
  rw [← hw3, ← hX]
  clear hw3 hX
  go_quiet (fail)
  obtain ⟨w4, hw4⟩ : ∃ w4, w4 = w3.drewN nq := ⟨_, rfl⟩
  rw [← hw4]
  have J4 := Lib.hid (show IJ w w4 R g T n c 1 E 0 0 X [] pa 0 none 0 [] by rw [hw4]; exact J3.out.keep (below_drewN (Below.refl _ _) (Nat.le_refl _)))
  clear hw4 u0 u1 J3 hz2 hR2 hg2 Z2 B2 F2
  obtain ⟨c0, c1, -, -, -, -⟩ := J4.out.rz.c0
  obtain ⟨k0, k1, k2, -⟩ := J4.out.rz.tok 1 hn1
  rw [← HTT.out] at k0 k1 k2
  replace k0 : w4.cell? ⟨g, 4, none⟩ = some (.int .i64 t.k) := k0
  replace k2 : w4.cell? ⟨g, 6, none⟩ = some (.string (bs t.w)) := k2
  have hR4 := J4.out.rz.lt
  go_wp2_with fail
  refine (HNM.out _).mono ?_
  rintro e w5 ⟨rfl, g5⟩
  have J5 := Lib.hid (J4.out.keep g5)
  clear g5 c0 c1 k0 k1 k2 hR4
  obtain ⟨c0, c1, -, -, -, -⟩ := J5.out.rz.c0
  obtain ⟨k0, k1, k2, -⟩ := J5.out.rz.tok 1 hn1
  rw [← HTT.out] at k0 k1 k2
  replace k2 : w5.cell? ⟨g, 6, none⟩ = some (.string (bs t.w)) := k2
  have hR5 := J5.out.rz.lt
  have hg5 := J5.out.rz.lg
  have hX5 := heap_lt J5.out.box
  obtain ⟨b0, -, -, -, -, -⟩ := J5.out.cells
  have bf := J5.out.frz.1 0
  have f1 := frozen_of_row _ _ 1 _ _ J5.out.rz.blk
  have hRX : ¬ R = X := by have := J5.out.hX; have := J5.out.hR; omega
  have hXR : ¬ X = R := fun e => hRX e.symm
  have HJ7 := Lib.hid ((J5.out.name HB.out.1 t.w).setK 2 2 rfl)
  clear k0 k1
  go_wp2
  obtain ⟨w7, hw7⟩ : ∃ w7, w7 = (w5.setCell ⟨X, 0, none⟩ (.string (bs t.w))).setCell ⟨R, 1, none⟩ (.int .i64 2) := ⟨_, rfl⟩
  rw [← hw7] at HJ7 ⊢
  have HPT := Lib.hid (show pa = (T.getD 1 default).a by rw [HPA.out, HTT.out])
  clear hw7 b0 bf f1 c0 c1 k2 hR5 hg5 hX5 hd q1 hkb hkb2 HNM J5 J4 HPL HPN HZ HPA
  obtain ⟨i2, hi, hz0, hz1, hz2⟩ := info_parts infoS
  have HI2 := Lib.hid (And.intro hi (And.intro hz0 (And.intro hz1 hz2)))
  clear hi hz0 hz1 hz2
  go_loopg [] (n - 2) (fun gk wx => ∃ K k A ck sd, K + gk = n ∧ 2 ≤ K ∧ k ≤ 4 ∧ Hid (IJ w wx R g T n c K E 0 0 X t.w pa k A ck sd) ∧ Hid (sidesR (T.drop 2) [] = sidesR (T.drop K) sd))
  case atStart => exact ⟨2, 0, none, 0, [], by omega, by omega, by omega, HJ7, rfl⟩
  case round =>
    obtain ⟨K, k, A, ck, sd, hKg, hK2, hk4, HV, HS⟩ := hrel
    obtain ⟨c0, c1, -, -, -, -⟩ := HV.out.rz.c0
    have u0 := fun j => (show (wr.drewN j).cell? ⟨R, 0, none⟩ = some (.slice (some ⟨g, 0, none⟩) n c) from c0)
    have u1 := fun j => (show (wr.drewN j).cell? ⟨R, 1, none⟩ = some (.int .i64 K) from c1)
    clear c0 c1
    by_cases hlt : K < n
    · obtain ⟨s, hs⟩ : ∃ s, s = T.getD K default := ⟨_, rfl⟩
      have HSS := Lib.hid hs
      have hd : decide ((K : Int) < (n : Int)) = true := by simp; omega
      clear hs
      go_wp2
      go_quiet (fail)
      obtain ⟨wy, hwy⟩ : ∃ wy, wy = wr.drewN nq := ⟨_, rfl⟩
      have HV2 := Lib.hid (show IJ w wy R g T n c K E 0 0 X t.w pa k A ck sd by rw [hwy]; exact HV.out.keep (below_drewN (Below.refl _ _) (Nat.le_refl _)))
      rw [← hwy]
      clear hwy u0 u1
      obtain ⟨c0, c1, -, -, -, -⟩ := HV2.out.rz.c0
      obtain ⟨k0, k1, k2, k3⟩ := HV2.out.rz.tok K hlt
      rw [← HSS.out] at k0 k1 k2 k3
      have q1 := idxTo g n c K hlt
      have hR6 := HV2.out.rz.lt
      have hg6 := HV2.out.rz.lg
      go_wp2
      go_region
      all_goals
        obtain ⟨w6, hw6⟩ : ∃ w6, w6 = (wy.alloc (.cells #[.int .i64 s.k, .int .i64 s.a, .string (bs s.w), .int .i64 s.n] 61)).drew := ⟨_, rfl⟩
        rw [← hw6]
        obtain ⟨Y, hY⟩ : ∃ Y, Y = wy.heap.size := ⟨_, rfl⟩
        rw [← hY]
        have HY := Lib.hid (show w6.heap[Y]? = some (.cells #[.int .i64 s.k, .int .i64 s.a, .string (bs s.w), .int .i64 s.n] 61 (0, 0)) by rw [hw6, hY]; exact heap_alloc_new wy _)
        have J6 := Lib.hid (show IJ w w6 R g T n c K E 0 0 X t.w pa k A ck sd by rw [hw6]; exact HV2.out.keep (up_drew wy _))
        have hYX : ¬ Y = X ∧ ¬ Y = R ∧ ¬ Y = w.heap.size := by have h1 := heap_lt HV2.out.box; have h2 := HV2.out.rz.lt; have h3 := heap_lt HV2.out.res; omega
        clear hw6 hY c0 c1 k0 k1 k2 k3 q1 hR6 hg6 hd
        have hms : s ∈ T := by rw [HSS.out]; exact getD_mem (by omega)
        have hsl := HTK.out.1.len _ hms
        have HPN := Lib.hid (show placeR T K E = s.a by rw [HSS.out]; unfold placeR; rw [if_pos (by omega)])
        have HDR := Lib.hid (show T.drop K = s :: T.drop (K + 1) by rw [HSS.out]; exact drop_at (by omega))
        have yc : ∀ W : World, W.heap[Y]? = some (.cells #[.int .i64 s.k, .int .i64 s.a, .string (bs s.w), .int .i64 s.n] 61 (0, 0)) → W.cell? ⟨Y, 0, none⟩ = some (.int .i64 s.k) ∧ W.cell? ⟨Y, 2, none⟩ = some (.string (bs s.w)) ∧ W.cell? ⟨Y, 3, none⟩ = some (.int .i64 s.n) := fun W h => by
          refine ⟨?_, ?_, ?_⟩ <;> · rw [cell_of_row _ _ _ _ _ _ h]; rfl
        have HYC := Lib.hid yc
        clear yc
        obtain ⟨y0, y2, y3⟩ := HYC.out _ HY.out
        obtain ⟨-, -, b2, -, -, -⟩ := J6.out.cells
        by_cases hs2 : s.k = 2
        · have hk2 : (s.k != 2) = false := by rw [hs2]; rfl
          have HO := Lib.hid (show ¬ (s.k ≠ 2 ∧ nameB s.w = false) from fun h => h.1 hs2)
          clear hs2
          by_cases h4 : k = 4
          · have h4i : ((k : Int) == 4) = true := by simp; omega
            have HRUN := Lib.hid (show inT T E = .inl (s.a, 45) by rw [HRS.out, HS.out, HDR.out, sides_cons, if_neg HO.out, if_pos (by rw [J6.out.hl]; exact h4)]; rfl)
            clear h4
            go_wp2_with fail
            refine (no_any _ R g n c K T E (0 : Nat) 0 0 45 J6.out.rz).mono ?_
            rintro e w9 ⟨rfl, z9, f9⟩
            rw [HPN.out] at z9
            have J9 := Lib.hid (J6.out.fz z9 f9)
            clear z9 f9
            obtain ⟨b0, b1, b2, r0, r1, r2⟩ := J9.out.cells
            obtain ⟨bf, rf⟩ := J9.out.frz
            have rf0 := rf 0
            have rf1 := rf 1
            have rf2 := rf 2
            have hXr : ¬ X = w.heap.size := by have := J9.out.hX; omega
            have hrX : ¬ w.heap.size = X := fun e => hXr e.symm
            have hXl := heap_lt J9.out.box
            have hrl := heap_lt J9.out.res
            clear bf rf
            go_wp2
            have D := Lib.hid (J9.out.done (.string (bs t.w)) (.int .i64 pa) (.slice A k ck))
            refine bodyPost_ret (v := .agg #[.string (bs t.w), .int .i64 pa, .slice A k ck]) (by simp [results, Tryd.results49, go_sem, r0, r1, r2]) rfl ?_
            rw [HRUN.out]
            exact ⟨_, _, _, _, _, rfl, D.out.1, K, s.a, 45, D.out.2.1 HB.out.1, rfl, rfl, rfl⟩
          · have h4i : ((k : Int) == 4) = false := by simp; omega
            have HS4 := Lib.hid (show sidesR (T.drop 2) [] = sidesR (T.drop (K + 1)) (sd ++ [(s.w, s.n)]) by rw [HS.out, HDR.out, sides_cons, if_neg HO.out, if_neg (by rw [J6.out.hl]; exact h4)])
            have h63 : k + 1 ≤ maxLen := by unfold maxLen; omega
            have h24 : (k + 1) * 24 ≤ 140737488355328 := by omega
            have hXi := heap_lt J6.out.box
            have nX : (Value.slice A k ck).ownBlock ≠ some X := fun e => by have := (row_base J6.out.own e).1; omega
            have bf := J6.out.frz.1 2
            have hRi := J6.out.rz.lt
            go_wp2_with (at_builtin; refine wpList_append_lies _ rfl (.tmp 109) (.tmp 115) _ rfl (X + 1) 80 i2 _ 2 24 Tryd.underlying42 HI2.out.1 HI2.out.2.1 HI2.out.2.2.1 HI2.out.2.2.2 rfl (by omega) (.slice A k ck) k (sd.flatMap scell) rfl (J6.out.own.alloc _) ⟨w6.heap.size, 0, none⟩ 1 1 (scell (s.w, s.n)) rfl rfl (newsN _ _ (by simp) #[.string (bs s.w), .int .i64 s.n] _) (by intro y hy; simp [scell] at hy; rcases hy with rfl | rfl <;> rfl) (by omega) h63 h24 (by simp; omega) (w6.heap.size + 1) (by simp) ?_; intro q cap wz hown4 hgrow hat hlt4; have hX4 := ((hgrow.block X (by simp; omega) (Ne.symm nX)).trans (heap_alloc_old w6 _ hXi)).trans J6.out.box; have z2 : wz.cell? ⟨X, 2, none⟩ = some (.slice A k ck) := (by rw [cell_of_row _ _ _ _ _ _ hX4]; rfl); have z3 : wz.frozen? ⟨X, 2, none⟩ = false := frozen_of_row _ _ _ _ _ hX4; have HG := Lib.hid (J6.out.step HB.out.1 hgrow hown4); have hRz := HG.out.2.trans J6.out.rz.blk; have z4 : wz.cell? ⟨R, 1, none⟩ = some (.int .i64 K) := (by rw [cell_of_row _ _ _ _ _ _ hRz]; rfl); have z5 : wz.frozen? ⟨R, 1, none⟩ = false := frozen_of_row _ _ _ _ _ hRz; have hRl4 := heap_lt hRz; have hXl4 := heap_lt hX4; clear hX4 hRz hgrow hown4 hat)
            have HG2 := Lib.hid (HG.out.1.setK (K + 1) ((K : Int) + 1) (by omega))
            cases gk with
            | zero => exact absurd hlt (by omega)
            | succ gk =>
              go_roundg gk
              case measure => omega
              case rel => exact ⟨K + 1, k + 1, _, cap, _, by omega, by omega, by omega, HG2, HS4⟩
        · have hk2 : (s.k != 2) = true := by simpa using hs2
          by_cases hs1 : s.k = 1
          · have hk1 : (s.k != 1) = false := by rw [hs1]; rfl
            cases hnb : nameB s.w with
            | false =>
              have HN2 := Lib.hid (fun W => (show Calls Tryd.prog 18 #[.string (bs s.w)] W (fun e w' => e = .returned (.bool false) ∧ Below W.heap.size W w') from (by have h1 := rname_any s.w W (by omega); rw [hnb] at h1; exact h1)))
              have HRUN := Lib.hid (show inT T E = .inl (s.a, 41) by rw [HRS.out, HS.out, HDR.out, sides_cons, if_pos ⟨hs2, hnb⟩]; rfl)
              clear hs2 hs1 hnb
              go_wp2_with fail
              refine (HN2.out _).mono ?_
              rintro e w8 ⟨rfl, g8⟩
              have J8 := Lib.hid (J6.out.keep g8)
              have HY8 := Lib.hid ((g8.block Y (heap_lt HY.out)).trans HY.out)
              clear g8 y0 y2 y3 b2
              obtain ⟨y0, y2, y3⟩ := HYC.out _ HY8.out
              obtain ⟨-, -, b2, -, -, -⟩ := J8.out.cells
              go_wp2_with fail
              refine (no_any _ R g n c K T E (0 : Nat) 0 0 41 J8.out.rz).mono ?_
              rintro e w9 ⟨rfl, z9, f9⟩
              rw [HPN.out] at z9
              have J9 := Lib.hid (J8.out.fz z9 f9)
              clear z9 f9
              obtain ⟨b0, b1, b2, r0, r1, r2⟩ := J9.out.cells
              obtain ⟨bf, rf⟩ := J9.out.frz
              have rf0 := rf 0
              have rf1 := rf 1
              have rf2 := rf 2
              have hXr : ¬ X = w.heap.size := by have := J9.out.hX; omega
              have hrX : ¬ w.heap.size = X := fun e => hXr e.symm
              have hXl := heap_lt J9.out.box
              have hrl := heap_lt J9.out.res
              clear bf rf
              go_wp2
              have D := Lib.hid (J9.out.done (.string (bs t.w)) (.int .i64 pa) (.slice A k ck))
              refine bodyPost_ret (v := .agg #[.string (bs t.w), .int .i64 pa, .slice A k ck]) (by simp [results, Tryd.results49, go_sem, r0, r1, r2]) rfl ?_
              rw [HRUN.out]
              exact ⟨_, _, _, _, _, rfl, D.out.1, K, s.a, 41, D.out.2.1 HB.out.1, rfl, rfl, rfl⟩
            | true =>
              have HN2 := Lib.hid (fun W => (show Calls Tryd.prog 18 #[.string (bs s.w)] W (fun e w' => e = .returned (.bool true) ∧ Below W.heap.size W w') from (by have h1 := rname_any s.w W (by omega); rw [hnb] at h1; exact h1)))
              have HO := Lib.hid (show ¬ (s.k ≠ 2 ∧ nameB s.w = false) from fun h => by rw [hnb] at h; exact absurd h.2 (by decide))
              clear hs2 hs1 hnb
              go_wp2_with fail
              refine (HN2.out _).mono ?_
              rintro e w8 ⟨rfl, g8⟩
              have J8 := Lib.hid (J6.out.keep g8)
              have HY8 := Lib.hid ((g8.block Y (heap_lt HY.out)).trans HY.out)
              clear g8 y0 y2 y3 b2
              obtain ⟨y0, y2, y3⟩ := HYC.out _ HY8.out
              obtain ⟨-, -, b2, -, -, -⟩ := J8.out.cells
              by_cases h4 : k = 4
              · have h4i : ((k : Int) == 4) = true := by simp; omega
                have HRUN := Lib.hid (show inT T E = .inl (s.a, 45) by rw [HRS.out, HS.out, HDR.out, sides_cons, if_neg HO.out, if_pos (by rw [J8.out.hl]; exact h4)]; rfl)
                clear h4
                go_wp2_with fail
                refine (no_any _ R g n c K T E (0 : Nat) 0 0 45 J8.out.rz).mono ?_
                rintro e w9 ⟨rfl, z9, f9⟩
                rw [HPN.out] at z9
                have J9 := Lib.hid (J8.out.fz z9 f9)
                clear z9 f9
                obtain ⟨b0, b1, b2, r0, r1, r2⟩ := J9.out.cells
                obtain ⟨bf, rf⟩ := J9.out.frz
                have rf0 := rf 0
                have rf1 := rf 1
                have rf2 := rf 2
                have hXr : ¬ X = w.heap.size := by have := J9.out.hX; omega
                have hrX : ¬ w.heap.size = X := fun e => hXr e.symm
                have hXl := heap_lt J9.out.box
                have hrl := heap_lt J9.out.res
                clear bf rf
                go_wp2
                have D := Lib.hid (J9.out.done (.string (bs t.w)) (.int .i64 pa) (.slice A k ck))
                refine bodyPost_ret (v := .agg #[.string (bs t.w), .int .i64 pa, .slice A k ck]) (by simp [results, Tryd.results49, go_sem, r0, r1, r2]) rfl ?_
                rw [HRUN.out]
                exact ⟨_, _, _, _, _, rfl, D.out.1, K, s.a, 45, D.out.2.1 HB.out.1, rfl, rfl, rfl⟩
              · have h4i : ((k : Int) == 4) = false := by simp; omega
                have HS4 := Lib.hid (show sidesR (T.drop 2) [] = sidesR (T.drop (K + 1)) (sd ++ [(s.w, s.n)]) by rw [HS.out, HDR.out, sides_cons, if_neg HO.out, if_neg (by rw [J8.out.hl]; exact h4)])
                have h63 : k + 1 ≤ maxLen := by unfold maxLen; omega
                have h24 : (k + 1) * 24 ≤ 140737488355328 := by omega
                have hXi := heap_lt J8.out.box
                have nX : (Value.slice A k ck).ownBlock ≠ some X := fun e => by have := (row_base J8.out.own e).1; omega
                have bf := J8.out.frz.1 2
                have hRi := J8.out.rz.lt
                go_wp2_with (at_builtin; refine wpList_append_lies _ rfl (.tmp 109) (.tmp 115) _ rfl (X + 1) 80 i2 _ 2 24 Tryd.underlying42 HI2.out.1 HI2.out.2.1 HI2.out.2.2.1 HI2.out.2.2.2 rfl (by omega) (.slice A k ck) k (sd.flatMap scell) rfl (J8.out.own.alloc _) ⟨w8.heap.size, 0, none⟩ 1 1 (scell (s.w, s.n)) rfl rfl (newsN _ _ (by simp) #[.string (bs s.w), .int .i64 s.n] _) (by intro y hy; simp [scell] at hy; rcases hy with rfl | rfl <;> rfl) (by omega) h63 h24 (by simp; omega) (w8.heap.size + 1) (by simp) ?_; intro q cap wz hown4 hgrow hat hlt4; have hX4 := ((hgrow.block X (by simp; omega) (Ne.symm nX)).trans (heap_alloc_old w8 _ hXi)).trans J8.out.box; have z2 : wz.cell? ⟨X, 2, none⟩ = some (.slice A k ck) := (by rw [cell_of_row _ _ _ _ _ _ hX4]; rfl); have z3 : wz.frozen? ⟨X, 2, none⟩ = false := frozen_of_row _ _ _ _ _ hX4; have HG := Lib.hid (J8.out.step HB.out.1 hgrow hown4); have hRz := HG.out.2.trans J8.out.rz.blk; have z4 : wz.cell? ⟨R, 1, none⟩ = some (.int .i64 K) := (by rw [cell_of_row _ _ _ _ _ _ hRz]; rfl); have z5 : wz.frozen? ⟨R, 1, none⟩ = false := frozen_of_row _ _ _ _ _ hRz; have hRl4 := heap_lt hRz; have hXl4 := heap_lt hX4; clear hX4 hRz hgrow hown4 hat)
                have HG2 := Lib.hid (HG.out.1.setK (K + 1) ((K : Int) + 1) (by omega))
                cases gk with
                | zero => exact absurd hlt (by omega)
                | succ gk =>
                  go_roundg gk
                  case measure => omega
                  case rel => exact ⟨K + 1, k + 1, _, cap, _, by omega, by omega, by omega, HG2, HS4⟩
          · have hk1 : (s.k != 1) = true := by simpa using hs1
            have hs3 : s.k = 3 := by rcases HTK.out.2 _ hms with h4 | h4 | h4; exact (hs1 h4).elim; exact (hs2 h4).elim; exact h4
            have hnb : nameB s.w = false := by
              cases e : nameB s.w with
              | false => rfl
              | true => exact (hs1 (HTK.out.1.name hms e)).elim
            have HRUN := Lib.hid (show inT T E = .inl (s.a, 41) by rw [HRS.out, HS.out, HDR.out, sides_cons, if_pos ⟨hs2, hnb⟩]; rfl)
            clear hs2 hs1 hnb hs3
            go_wp2_with fail
            refine (no_any _ R g n c K T E (0 : Nat) 0 0 41 J6.out.rz).mono ?_
            rintro e w9 ⟨rfl, z9, f9⟩
            rw [HPN.out] at z9
            have J9 := Lib.hid (J6.out.fz z9 f9)
            clear z9 f9
            obtain ⟨b0, b1, b2, r0, r1, r2⟩ := J9.out.cells
            obtain ⟨bf, rf⟩ := J9.out.frz
            have rf0 := rf 0
            have rf1 := rf 1
            have rf2 := rf 2
            have hXr : ¬ X = w.heap.size := by have := J9.out.hX; omega
            have hrX : ¬ w.heap.size = X := fun e => hXr e.symm
            have hXl := heap_lt J9.out.box
            have hrl := heap_lt J9.out.res
            clear bf rf
            go_wp2
            have D := Lib.hid (J9.out.done (.string (bs t.w)) (.int .i64 pa) (.slice A k ck))
            refine bodyPost_ret (v := .agg #[.string (bs t.w), .int .i64 pa, .slice A k ck]) (by simp [results, Tryd.results49, go_sem, r0, r1, r2]) rfl ?_
            rw [HRUN.out]
            exact ⟨_, _, _, _, _, rfl, D.out.1, K, s.a, 41, D.out.2.1 HB.out.1, rfl, rfl, rfl⟩
    · have hKn : K = n := by omega
      have hd : decide ((K : Int) < (n : Int)) = false := by simp; omega
      have HRUN := Lib.hid (show inT T E = .inr ⟨t.w, pa, sd⟩ by
        rw [HRS.out, HS.out, List.drop_of_length_le (by omega), HPT.out, HTT.out]; rfl)
      clear hKn
      go_wp2
      go_quiet (fail)
      obtain ⟨wy, hwy⟩ : ∃ wy, wy = wr.drewN nq := ⟨_, rfl⟩
      have J9 := Lib.hid (show IJ w wy R g T n c K E 0 0 X t.w pa k A ck sd by rw [hwy]; exact HV.out.keep (below_drewN (Below.refl _ _) (Nat.le_refl _)))
      rw [← hwy]
      clear hwy u0 u1
      obtain ⟨b0, b1, b2, r0, r1, r2⟩ := J9.out.cells
      obtain ⟨bf, rf⟩ := J9.out.frz
      have rf0 := rf 0
      have rf1 := rf 1
      have rf2 := rf 2
      have hXr : ¬ X = w.heap.size := by have := J9.out.hX; omega
      have hrX : ¬ w.heap.size = X := fun e => hXr e.symm
      have hXl := heap_lt J9.out.box
      have hrl := heap_lt J9.out.res
      clear bf rf
      go_wp2
      have D := Lib.hid (J9.out.done (.string (bs t.w)) (.int .i64 pa) (.slice A k ck))
      refine bodyPost_ret (v := .agg #[.string (bs t.w), .int .i64 pa, .slice A k ck]) (by simp [results, Tryd.results49, go_sem, r0, r1, r2]) rfl ?_
      rw [HRUN.out]
      exact ⟨_, _, _, _, _, rfl, D.out.1, K, 0, 0, D.out.2.1 HB.out.1, rfl, rfl, rfl, rfl, J9.out.hl.symm, D.out.2.2.1, D.out.2.2.2⟩
end Go.Proofs.YthdognmppbckbaaDoor
