/- Layer 4, put together: ParZm, ParZn. -/
import Derived.Test.YthdognmppbckbaaDoorZPx
import Derived.Test.YthdognmppbckbaaDoorZPf
/- The document's line: names, out. Written by gen_zm.py. -/
namespace Go.Proofs.YthdognmppbckbaaDoor
open Go.RowKit
set_option linter.unusedVariables false
def lineW (w3 : World) (R : Nat) (a : Int) : World := (w3.setCell ⟨R, 1, none⟩ (.int .i64 1)).alloc (.cells #[.string ⟨#[]⟩, .int .i64 a, .slice none 0 0] 41)
structure LK (w wx : World) (R g : Nat) (T : List Tk) (n c K : Nat) (E fa fc : Int) (t : Tk) (P : Nat) (xs : List NM) (ls : List LM) (vi vl : Value) (L : Nat) (nm : List UInt8) (v : Value) : Prop where
  j : LJ w wx R g T n c K E fa fc t P xs ls vi vl
  lb : wx.heap[L]? = some (.cells #[.string (bs nm), .int .i64 t.a, v] 41 (0, 0))
  hL : w.heap.size < L
theorem LK.keep {w wx wy : World} {R g : Nat} {T : List Tk} {n c K : Nat} {E fa fc : Int} {t : Tk} {P : Nat} {xs : List NM} {ls : List LM} {vi vl : Value} {L : Nat} {nm : List UInt8} {v : Value} (h : LK w wx R g T n c K E fa fc t P xs ls vi vl L nm v) (hb : Below wx.heap.size wx wy) : LK w wy R g T n c K E fa fc t P xs ls vi vl L nm v :=
  ⟨h.j.keep hb, (hb.block _ (heap_lt h.lb)).trans h.lb, h.hL⟩
theorem LK.fz {w wx wy : World} {R g : Nat} {T : List Tk} {n c K K' : Nat} {E fa fc fa' fc' : Int} {t : Tk} {P : Nat} {xs : List NM} {ls : List LM} {vi vl : Value} {L : Nat} {nm : List UInt8} {v : Value} (h : LK w wx R g T n c K E fa fc t P xs ls vi vl L nm v) (hz : RZ wy R g T n c K' E (0 : Nat) fa' fc') (F : Fr (fun k => k = R) wx wy) : LK w wy R g T n c K' E fa' fc' t P xs ls vi vl L nm v := by
  have hR := h.j.lt
  have hL := h.hL
  exact ⟨h.j.fz hz F, (F.block _ (heap_lt h.lb) (by omega)).trans h.lb, hL⟩
theorem LK.setK {w wx : World} {R g : Nat} {T : List Tk} {n c K : Nat} {E fa fc : Int} {t : Tk} {P : Nat} {xs : List NM} {ls : List LM} {vi vl : Value} {L : Nat} {nm : List UInt8} {v : Value} (h : LK w wx R g T n c K E fa fc t P xs ls vi vl L nm v) (K' : Nat) (x : Int) (hx : x = (K' : Int)) : LK w (wx.setCell ⟨R, 1, none⟩ (.int .i64 x)) R g T n c K' E fa fc t P xs ls vi vl L nm v :=
  h.fz (h.j.rz.setI K' x hx) ((Fr.refl _ _).setR 1 _)
theorem LK.setL {w wx : World} {R g : Nat} {T : List Tk} {n c K : Nat} {E fa fc : Int} {t : Tk} {P : Nat} {xs : List NM} {ls : List LM} {vi vl : Value} {L : Nat} {nm : List UInt8} {v : Value} (h : LK w wx R g T n c K E fa fc t P xs ls vi vl L nm v) {cs : Array Value} {fr : Nat × Nat} (hP : PS w P xs ls vi vl) (hR : w.heap[R]? = some (.cells cs 70 fr)) (hg : g < w.heap.size) (o : Nat) (x : Value) (nm' : List UInt8) (v' : Value)
    (hc : (#[.string (bs nm), .int .i64 t.a, v] : Array Value).setIfInBounds o x = #[.string (bs nm'), .int .i64 t.a, v']) : LK w (wx.setCell ⟨L, o, none⟩ x) R g T n c K E fa fc t P xs ls vi vl L nm' v' := by
  have hRl := h.j.lt
  have hL := h.hL
  have F := h.j.fr.set (b := L) (.inr (by omega)) o x
  exact ⟨⟨h.j.rz.far (by omega) (by omega) o x, F, by rw [Fr.set.heap_set_other (by omega)]; exact h.j.tb, hP.onR F hR, hRl⟩, by rw [heap_setCell_same _ _ _ _ _ _ h.lb, hc], hL⟩
theorem LK.start {w w3 : World} {R g : Nat} {T : List Tk} {n c : Nat} {E : Int} {t : Tk} {P : Nat} {xs : List NM} {ls : List LM} {vi vl : Value} (h : LJ w w3 R g T n c 0 E 0 0 t P xs ls vi vl) : LK w (lineW w3 R t.a) R g T n c 1 E 0 0 t P xs ls vi vl w3.heap.size [] (.slice none 0 0) := by
  have h1 := heap_lt h.tb
  refine ⟨(h.fz (h.rz.setI 1 1 rfl) ((Fr.refl _ _).setR 1 _)).keep (up _), ?_, h1⟩
  have := heap_alloc_new (w3.setCell ⟨R, 1, none⟩ (.int .i64 1)) (.cells #[.string ⟨#[]⟩, .int .i64 t.a, .slice none 0 0] 41)
  rw [show (w3.setCell ⟨R, 1, none⟩ (.int .i64 1)).heap.size = w3.heap.size by simp] at this
  exact this
theorem OI.shape_le {w : World} {B c : Nat} {A : Option Addr} {l : List It} (h : OI w B (.slice A l.length c) l.length l) : l.length ≤ c := by
  obtain ⟨A', c', e, hc⟩ := h.shape
  injection e with _ _ e3
  subst e3
  exact hc
theorem LK.cells {w wx : World} {R g : Nat} {T : List Tk} {n c K : Nat} {E fa fc : Int} {t : Tk} {P : Nat} {xs : List NM} {ls : List LM} {vi vl : Value} {L : Nat} {nm : List UInt8} {v : Value} (h : LK w wx R g T n c K E fa fc t P xs ls vi vl L nm v) : wx.cell? ⟨L, 0, none⟩ = some (.string (bs nm)) ∧ wx.cell? ⟨L, 1, none⟩ = some (.int .i64 t.a) ∧ wx.cell? ⟨L, 2, none⟩ = some v ∧ ∀ o, wx.frozen? ⟨L, o, none⟩ = false := by
  refine ⟨?_, ?_, ?_, fun o => frozen_of_row _ _ _ _ _ h.lb⟩ <;> · rw [cell_of_row _ _ _ _ _ _ h.lb]; rfl
set_option maxRecDepth 100000 in
set_option maxHeartbeats 3200000 in
theorem line_h1 (w : World) (R g n c : Nat) (T : List Tk) (E : Int) (h : RZ w R g T n c 0 E (0 : Nat) 0 0) (hlg : g < w.heap.size) (hn1 : 0 < n) (hn7 : n ≤ 1000000) (hT : LT T) (P : Nat) (xs : List NM) (ls : List LM) (vi vl : Value) (hP : PS w P xs ls vi vl) (cnt : Nat) (ov : Bool) (hc64 : decide ((64 : Int) ≤ (cnt : Int)) = false) (hc256 : decide ((256 : Int) < (n : Int)) = false) (hov : ov = false) (hw : ¬ (T.getD 0 default).w = [105, 110]) (hk : ¬ (T.getD 0 default).k = 1) : Calls Tryd.prog 31 #[.pointer (some ⟨R, 0, none⟩), .pointer (some ⟨P, 0, none⟩), .int .i64 cnt, .bool ov] w (LnAns w R g T n c E P xs ls vi vl (.err (T.getD 0 default).a 40)) := by
  have hRl := h.lt
  have hnn := h.hn
  obtain ⟨t, ht⟩ : ∃ t, t = T.getD 0 default := ⟨_, rfl⟩
  have HTT := Lib.hid ht
  have HLG := Lib.hid hlg
  obtain ⟨c0, -, -, -, -, -⟩ := h.c0
  obtain ⟨k0, k1, k2, k3⟩ := h.tok 0 hn1
  rw [← ht] at k0 k1 k2 k3
  replace k0 : w.cell? ⟨g, 0, none⟩ = some (.int .i64 t.k) := by rw [Nat.zero_mul] at k0; exact k0
  replace k1 : w.cell? ⟨g, 1, none⟩ = some (.int .i64 t.a) := by rw [Nat.zero_mul, Nat.zero_add] at k1; exact k1
  replace k2 : w.cell? ⟨g, 2, none⟩ = some (.string (bs t.w)) := by rw [Nat.zero_mul, Nat.zero_add] at k2; exact k2
  replace k3 : w.cell? ⟨g, 3, none⟩ = some (.int .i64 t.n) := by rw [Nat.zero_mul, Nat.zero_add] at k3; exact k3
  have q0 : ∀ W : World, (Instr.indexAt 57 (.slice (some ⟨g, 0, none⟩) n c) (.int .i64 0)).run Tryd.prog W = .ok (.pointer (some ⟨g, 0, none⟩)) W := fun W => by
    have := idxTo g n c 0 hn1 W
    rw [Nat.zero_mul] at this
    exact this
  have J1 := Lib.hid (show LJ w (w.alloc (.cells #[.int .i64 t.k, .int .i64 t.a, .string (bs t.w), .int .i64 t.n] 61)) R g T n c 0 E 0 0 t P xs ls vi vl from ⟨h.up _, (Fr.refl _ _).alloc _, heap_alloc_new w _, hP.keep (up _), hRl⟩)
  obtain ⟨w1, hw1⟩ : ∃ w1, w1 = w.alloc (.cells #[.int .i64 t.k, .int .i64 t.a, .string (bs t.w), .int .i64 t.n] 61) := ⟨_, rfl⟩
  rw [← hw1] at J1
  have HW1 := Lib.hid hw1
  have hgl := h.lg
  have htl := hT.len _ (getD_mem (T := T) (I := 0) (by omega))
  have HI := Lib.hid (fun (W : World) (hW : RZ W R g T n c 0 E (0 : Nat) 0 0) => (show Calls Tryd.prog 48 #[.pointer (some ⟨R, 0, none⟩), .string ⟨#[105, 110]⟩] W (fun e w' => e = .returned (.bool false) ∧ ∃ j, w' = W.drewN j) from is_any W R g n c 0 T E (0 : Nat) 0 0 hW [105, 110] false (fun a b => hT.kw _ (getD_mem (by rw [h.hn]; exact a)) (by rw [b]; decide)) (by symm; exact decide_eq_false (fun a => hw a.2))))
  have HPN := Lib.hid (show placeR T 0 E = t.a by rw [ht]; unfold placeR; rw [if_pos (by omega)])
  rw [← ht] at hk htl ⊢
  subst hov
  have hk1 : (t.k == 1) = false := by simpa using hk
  have hk2 : (t.k != 1) = true := by simpa using hk
  clear h hP hlg hT ht hw1 hw hk htl
  go_enter Tryd.func31, Tryd.ntmps31
  go_wp2_with fail
  rw [← HW1.out]
  refine (HI.out _ J1.out.rz).mono ?_
  rintro e w2 ⟨rfl, j2, e2⟩
  have J2 := Lib.hid (show LJ w w2 R g T n c 0 E 0 0 t P xs ls vi vl by rw [e2]; exact J1.out.keep (below_drewN (Below.refl _ _) (Nat.le_refl _)))
  clear e2
  go_wp2_with fail
  refine (HI.out _ J2.out.rz).mono ?_
  rintro e w3 ⟨rfl, j3, e3⟩
  have J3 := Lib.hid (show LJ w w3 R g T n c 0 E 0 0 t P xs ls vi vl by rw [e3]; exact J2.out.keep (below_drewN (Below.refl _ _) (Nat.le_refl _)))
  clear e3
  have K4 := Lib.hid (LK.start J3.out)
  obtain ⟨t0, t1, t2⟩ := J3.out.cells
  obtain ⟨-, d1, -, -, -, -⟩ := J3.out.rz.c0
  have f1 := frozen_of_row _ _ 1 _ _ J3.out.rz.blk
  have hRl3 := J3.out.rz.lt
  have hYl3 := heap_lt J3.out.tb
  have hRY : ¬ R = w.heap.size := by omega
  have hYR : ¬ w.heap.size = R := by omega
  clear c0 k0 k1 k2 k3 q0
  go_wp2_with fail
  have J5 := Lib.hid (show LJ w (((w3.setCell ⟨R, 1, none⟩ (.int .i64 1)).setCell ⟨R, 1, none⟩ (.int .i64 0)).alloc (.cells #[.string ⟨#[]⟩, .int .i64 t.a, .slice none 0 0] 41)) R g T n c 0 E 0 0 t P xs ls vi vl from ((J3.out.fz (J3.out.rz.setI 1 1 rfl) ((Fr.refl _ _).setR 1 _)).fz ((J3.out.rz.setI 1 1 rfl).setI 0 0 rfl) ((Fr.refl _ _).setR 1 _)).keep (up _))
  refine (no_any _ R g n c 0 T E (0 : Nat) 0 0 40 J5.out.rz).mono ?_
  rintro e w9 ⟨rfl, z9, f9⟩
  rw [HPN.out] at z9
  have J9 := Lib.hid (J5.out.fz z9 f9)
  clear z9 f9
  go_wp2
  refine bodyPost_ret (v := .tuple #[]) (by simp [results, Tryd.results31, go_sem]) rfl ?_
  exact J9.out.bad rfl
set_option maxRecDepth 100000 in
set_option maxHeartbeats 3200000 in
theorem line_h2 (w : World) (R g n c : Nat) (T : List Tk) (E : Int) (h : RZ w R g T n c 0 E (0 : Nat) 0 0) (hlg : g < w.heap.size) (hn1 : 0 < n) (hn7 : n ≤ 1000000) (hT : LT T) (P : Nat) (xs : List NM) (ls : List LM) (vi vl : Value) (hP : PS w P xs ls vi vl) (cnt : Nat) (ov : Bool) (hc64 : decide ((64 : Int) ≤ (cnt : Int)) = false) (hc256 : decide ((256 : Int) < (n : Int)) = false) (hov : ov = false) (hw : ¬ (T.getD 0 default).w = [105, 110]) (hk : (T.getD 0 default).k = 1) (hw2 : ¬ (T.getD 0 default).w = [111, 117, 116]) (hnb : nameB (T.getD 0 default).w = false) : Calls Tryd.prog 31 #[.pointer (some ⟨R, 0, none⟩), .pointer (some ⟨P, 0, none⟩), .int .i64 cnt, .bool ov] w (LnAns w R g T n c E P xs ls vi vl (.err (T.getD 0 default).a 40)) := by
  have hRl := h.lt
  have hnn := h.hn
  obtain ⟨t, ht⟩ : ∃ t, t = T.getD 0 default := ⟨_, rfl⟩
  have HTT := Lib.hid ht
  have HLG := Lib.hid hlg
  obtain ⟨c0, -, -, -, -, -⟩ := h.c0
  obtain ⟨k0, k1, k2, k3⟩ := h.tok 0 hn1
  rw [← ht] at k0 k1 k2 k3
  replace k0 : w.cell? ⟨g, 0, none⟩ = some (.int .i64 t.k) := by rw [Nat.zero_mul] at k0; exact k0
  replace k1 : w.cell? ⟨g, 1, none⟩ = some (.int .i64 t.a) := by rw [Nat.zero_mul, Nat.zero_add] at k1; exact k1
  replace k2 : w.cell? ⟨g, 2, none⟩ = some (.string (bs t.w)) := by rw [Nat.zero_mul, Nat.zero_add] at k2; exact k2
  replace k3 : w.cell? ⟨g, 3, none⟩ = some (.int .i64 t.n) := by rw [Nat.zero_mul, Nat.zero_add] at k3; exact k3
  have q0 : ∀ W : World, (Instr.indexAt 57 (.slice (some ⟨g, 0, none⟩) n c) (.int .i64 0)).run Tryd.prog W = .ok (.pointer (some ⟨g, 0, none⟩)) W := fun W => by
    have := idxTo g n c 0 hn1 W
    rw [Nat.zero_mul] at this
    exact this
  have J1 := Lib.hid (show LJ w (w.alloc (.cells #[.int .i64 t.k, .int .i64 t.a, .string (bs t.w), .int .i64 t.n] 61)) R g T n c 0 E 0 0 t P xs ls vi vl from ⟨h.up _, (Fr.refl _ _).alloc _, heap_alloc_new w _, hP.keep (up _), hRl⟩)
  obtain ⟨w1, hw1⟩ : ∃ w1, w1 = w.alloc (.cells #[.int .i64 t.k, .int .i64 t.a, .string (bs t.w), .int .i64 t.n] 61) := ⟨_, rfl⟩
  rw [← hw1] at J1
  have HW1 := Lib.hid hw1
  have hgl := h.lg
  have htl := hT.len _ (getD_mem (T := T) (I := 0) (by omega))
  have HI := Lib.hid (fun (W : World) (hW : RZ W R g T n c 0 E (0 : Nat) 0 0) => (show Calls Tryd.prog 48 #[.pointer (some ⟨R, 0, none⟩), .string ⟨#[105, 110]⟩] W (fun e w' => e = .returned (.bool false) ∧ ∃ j, w' = W.drewN j) from is_any W R g n c 0 T E (0 : Nat) 0 0 hW [105, 110] false (fun a b => hT.kw _ (getD_mem (by rw [h.hn]; exact a)) (by rw [b]; decide)) (by symm; exact decide_eq_false (fun a => hw a.2))))
  have HPN := Lib.hid (show placeR T 0 E = t.a by rw [ht]; unfold placeR; rw [if_pos (by omega)])
  rw [← ht] at hk hw2 hnb htl ⊢
  subst hov
  have hk1 : (t.k == 1) = true := by rw [hk]; rfl
  have hk2 : (t.k != 1) = false := by rw [hk]; rfl
  have d9 : ((bs t.w).toList == [111, 117, 116]) = false := cmpNo hw2
  have HNM := Lib.hid (fun W => (show Calls Tryd.prog 18 #[.string (bs t.w)] W (fun e w' => e = .returned (.bool false) ∧ Below W.heap.size W w') from (by have h1 := rname_any t.w W (by omega); rw [hnb] at h1; exact h1)))
  clear h hP hlg hT ht hw1 hw hk hw2 hnb htl
  go_enter Tryd.func31, Tryd.ntmps31
  go_wp2_with fail
  rw [← HW1.out]
  refine (HI.out _ J1.out.rz).mono ?_
  rintro e w2 ⟨rfl, j2, e2⟩
  have J2 := Lib.hid (show LJ w w2 R g T n c 0 E 0 0 t P xs ls vi vl by rw [e2]; exact J1.out.keep (below_drewN (Below.refl _ _) (Nat.le_refl _)))
  clear e2
  go_wp2_with fail
  refine (HI.out _ J2.out.rz).mono ?_
  rintro e w3 ⟨rfl, j3, e3⟩
  have J3 := Lib.hid (show LJ w w3 R g T n c 0 E 0 0 t P xs ls vi vl by rw [e3]; exact J2.out.keep (below_drewN (Below.refl _ _) (Nat.le_refl _)))
  clear e3
  have K4 := Lib.hid (LK.start J3.out)
  obtain ⟨t0, t1, t2⟩ := J3.out.cells
  obtain ⟨-, d1, -, -, -, -⟩ := J3.out.rz.c0
  have f1 := frozen_of_row _ _ 1 _ _ J3.out.rz.blk
  have hRl3 := J3.out.rz.lt
  have hYl3 := heap_lt J3.out.tb
  have hRY : ¬ R = w.heap.size := by omega
  have hYR : ¬ w.heap.size = R := by omega
  clear c0 k0 k1 k2 k3 q0
  go_wp2_with fail
  refine (HNM.out _).mono ?_
  rintro e w5 ⟨rfl, g5⟩
  have K5 := Lib.hid (K4.out.keep g5)
  clear g5 t0 t1 t2 d1 f1 hRl3 hYl3
  obtain ⟨t0, t1, t2⟩ := K5.out.j.cells
  obtain ⟨-, d1, -, -, -, -⟩ := K5.out.j.rz.c0
  have f1 := frozen_of_row _ _ 1 _ _ K5.out.j.rz.blk
  go_wp2_with fail
  have J6 := Lib.hid (K5.out.setK 0 0 rfl).j
  refine (no_any _ R g n c 0 T E (0 : Nat) 0 0 40 J6.out.rz).mono ?_
  rintro e w9 ⟨rfl, z9, f9⟩
  rw [HPN.out] at z9
  have J9 := Lib.hid (J6.out.fz z9 f9)
  clear z9 f9
  go_wp2
  refine bodyPost_ret (v := .tuple #[]) (by simp [results, Tryd.results31, go_sem]) rfl ?_
  exact J9.out.bad rfl
set_option maxRecDepth 100000 in
set_option maxHeartbeats 3200000 in
theorem line_f (w : World) (R g n c : Nat) (T : List Tk) (E : Int) (h : RZ w R g T n c 0 E (0 : Nat) 0 0) (hlg : g < w.heap.size) (hn1 : 0 < n) (hn7 : n ≤ 1000000) (hT : LT T) (P : Nat) (xs : List NM) (ls : List LM) (vi vl : Value) (hP : PS w P xs ls vi vl) (cnt : Nat) (ov : Bool) (hc64 : decide ((64 : Int) ≤ (cnt : Int)) = false) (hc256 : decide ((256 : Int) < (n : Int)) = false) (hov : ov = false) (hw : ¬ (T.getD 0 default).w = [105, 110]) (hk : (T.getD 0 default).k = 1) (hw2 : ¬ (T.getD 0 default).w = [111, 117, 116]) (hnb : nameB (T.getD 0 default).w = true) (hcl : ¬ (1 < n ∧ (T.getD 1 default).w = [58])) : Calls Tryd.prog 31 #[.pointer (some ⟨R, 0, none⟩), .pointer (some ⟨P, 0, none⟩), .int .i64 cnt, .bool ov] w (LnAns w R g T n c E P xs ls vi vl (.err (placeR T 1 E) 42)) := by
  have hRl := h.lt
  have hnn := h.hn
  obtain ⟨t, ht⟩ : ∃ t, t = T.getD 0 default := ⟨_, rfl⟩
  have HTT := Lib.hid ht
  have HLG := Lib.hid hlg
  obtain ⟨c0, -, -, -, -, -⟩ := h.c0
  obtain ⟨k0, k1, k2, k3⟩ := h.tok 0 hn1
  rw [← ht] at k0 k1 k2 k3
  replace k0 : w.cell? ⟨g, 0, none⟩ = some (.int .i64 t.k) := by rw [Nat.zero_mul] at k0; exact k0
  replace k1 : w.cell? ⟨g, 1, none⟩ = some (.int .i64 t.a) := by rw [Nat.zero_mul, Nat.zero_add] at k1; exact k1
  replace k2 : w.cell? ⟨g, 2, none⟩ = some (.string (bs t.w)) := by rw [Nat.zero_mul, Nat.zero_add] at k2; exact k2
  replace k3 : w.cell? ⟨g, 3, none⟩ = some (.int .i64 t.n) := by rw [Nat.zero_mul, Nat.zero_add] at k3; exact k3
  have q0 : ∀ W : World, (Instr.indexAt 57 (.slice (some ⟨g, 0, none⟩) n c) (.int .i64 0)).run Tryd.prog W = .ok (.pointer (some ⟨g, 0, none⟩)) W := fun W => by
    have := idxTo g n c 0 hn1 W
    rw [Nat.zero_mul] at this
    exact this
  have J1 := Lib.hid (show LJ w (w.alloc (.cells #[.int .i64 t.k, .int .i64 t.a, .string (bs t.w), .int .i64 t.n] 61)) R g T n c 0 E 0 0 t P xs ls vi vl from ⟨h.up _, (Fr.refl _ _).alloc _, heap_alloc_new w _, hP.keep (up _), hRl⟩)
  obtain ⟨w1, hw1⟩ : ∃ w1, w1 = w.alloc (.cells #[.int .i64 t.k, .int .i64 t.a, .string (bs t.w), .int .i64 t.n] 61) := ⟨_, rfl⟩
  rw [← hw1] at J1
  have HW1 := Lib.hid hw1
  have hgl := h.lg
  have htl := hT.len _ (getD_mem (T := T) (I := 0) (by omega))
  have HI := Lib.hid (fun (W : World) (hW : RZ W R g T n c 0 E (0 : Nat) 0 0) => (show Calls Tryd.prog 48 #[.pointer (some ⟨R, 0, none⟩), .string ⟨#[105, 110]⟩] W (fun e w' => e = .returned (.bool false) ∧ ∃ j, w' = W.drewN j) from is_any W R g n c 0 T E (0 : Nat) 0 0 hW [105, 110] false (fun a b => hT.kw _ (getD_mem (by rw [h.hn]; exact a)) (by rw [b]; decide)) (by symm; exact decide_eq_false (fun a => hw a.2))))
  have HP0 := Lib.hid (And.intro hP h.blk)
  have HC := Lib.hid (fun (W : World) (hW : RZ W R g T n c 1 E (0 : Nat) 0 0) => (show Calls Tryd.prog 48 #[.pointer (some ⟨R, 0, none⟩), .string ⟨#[58]⟩] W (fun e w' => e = .returned (.bool false) ∧ ∃ j, w' = W.drewN j) from is_any W R g n c 1 T E (0 : Nat) 0 0 hW [58] false (fun a b => hT.kw _ (getD_mem (by rw [h.hn]; exact a)) (by rw [b]; decide)) (by symm; exact decide_eq_false hcl)))
  obtain ⟨pa, hpa⟩ : ∃ pa, pa = placeR T 1 E := ⟨_, rfl⟩
  have HPN := Lib.hid hpa.symm
  rw [← hpa]
  rw [← ht] at hk hw2 hnb htl
  subst hov
  have hk1 : (t.k == 1) = true := by rw [hk]; rfl
  have d9 : ((bs t.w).toList == [111, 117, 116]) = false := cmpNo hw2
  have HNM := Lib.hid (fun W => (show Calls Tryd.prog 18 #[.string (bs t.w)] W (fun e w' => e = .returned (.bool true) ∧ Below W.heap.size W w') from (by have h1 := rname_any t.w W (by omega); rw [hnb] at h1; exact h1)))
  clear h hP hlg hT ht hw1 hw hk hw2 hnb htl hcl hpa
  go_enter Tryd.func31, Tryd.ntmps31
  go_wp2_with fail
  rw [← HW1.out]
  refine (HI.out _ J1.out.rz).mono ?_
  rintro e w2 ⟨rfl, j2, e2⟩
  have J2 := Lib.hid (show LJ w w2 R g T n c 0 E 0 0 t P xs ls vi vl by rw [e2]; exact J1.out.keep (below_drewN (Below.refl _ _) (Nat.le_refl _)))
  clear e2
  go_wp2_with fail
  refine (HI.out _ J2.out.rz).mono ?_
  rintro e w3 ⟨rfl, j3, e3⟩
  have J3 := Lib.hid (show LJ w w3 R g T n c 0 E 0 0 t P xs ls vi vl by rw [e3]; exact J2.out.keep (below_drewN (Below.refl _ _) (Nat.le_refl _)))
  clear e3
  have K4 := Lib.hid (LK.start J3.out)
  obtain ⟨t0, t1, t2⟩ := J3.out.cells
  obtain ⟨-, d1, -, -, -, -⟩ := J3.out.rz.c0
  have f1 := frozen_of_row _ _ 1 _ _ J3.out.rz.blk
  have hRl3 := J3.out.rz.lt
  have hYl3 := heap_lt J3.out.tb
  have hRY : ¬ R = w.heap.size := by omega
  have hYR : ¬ w.heap.size = R := by omega
  clear c0 k0 k1 k2 k3 q0
  go_wp2_with fail
  refine (HNM.out _).mono ?_
  rintro e w5 ⟨rfl, g5⟩
  have K5 := Lib.hid (K4.out.keep g5)
  obtain ⟨L, hL⟩ : ∃ L, L = w3.heap.size := ⟨_, rfl⟩
  rw [← hL] at K5 ⊢
  clear g5 t0 t1 t2 d1 f1 hRl3 hYl3 hL
  obtain ⟨t0, t1, t2⟩ := K5.out.j.cells
  obtain ⟨l0, l1, l2, lf⟩ := K5.out.cells
  have lf0 := lf 0
  have hLl := heap_lt K5.out.lb
  have K6 := Lib.hid (K5.out.setL HP0.out.1 HP0.out.2 HLG.out 0 (.string (bs t.w)) t.w (.slice none 0 0) rfl)
  clear lf
  go_wp2_with fail
  refine (HC.out _ K6.out.j.rz).mono ?_
  rintro e w7 ⟨rfl, j7, e7⟩
  have K7 := Lib.hid (show LK w w7 R g T n c 1 E 0 0 t P xs ls vi vl L t.w (.slice none 0 0) by rw [e7]; exact K6.out.keep (below_drewN (Below.refl _ _) (Nat.le_refl _)))
  clear e7 t0 t1 t2 l0 l1 l2 lf0 hLl
  go_wp2_with fail
  have J7 := Lib.hid K7.out.j
  refine (no_any _ R g n c 1 T E (0 : Nat) 0 0 42 J7.out.rz).mono ?_
  rintro e w9 ⟨rfl, z9, f9⟩
  rw [HPN.out] at z9
  have J9 := Lib.hid (J7.out.fz z9 f9)
  clear z9 f9
  go_wp2
  refine bodyPost_ret (v := .tuple #[]) (by simp [results, Tryd.results31, go_sem]) rfl ?_
  exact J9.out.bad rfl
set_option maxRecDepth 100000 in
set_option maxHeartbeats 6400000 in
theorem line_i (w : World) (R g n c : Nat) (T : List Tk) (E : Int) (h : RZ w R g T n c 0 E (0 : Nat) 0 0) (hlg : g < w.heap.size) (hn1 : 0 < n) (hn7 : n ≤ 1000000) (hT : LT T) (P : Nat) (xs : List NM) (ls : List LM) (vi vl : Value) (hP : PS w P xs ls vi vl) (cnt : Nat) (ov : Bool) (hkk : ∀ t ∈ T, t.k = 1 ∨ t.k = 2 ∨ t.k = 3) (hl7 : ls.length ≤ 1000) (hc64 : decide ((64 : Int) ≤ (cnt : Int)) = false) (hc256 : decide ((256 : Int) < (n : Int)) = false) (hov : ov = false) (hw : ¬ (T.getD 0 default).w = [105, 110]) (hk : (T.getD 0 default).k = 1) (hw2 : (T.getD 0 default).w = [111, 117, 116]) : Calls Tryd.prog 31 #[.pointer (some ⟨R, 0, none⟩), .pointer (some ⟨P, 0, none⟩), .int .i64 cnt, .bool ov] w (LnAns w R g T n c E P xs ls vi vl (lnOf (pgOf xs ls) [] (T.getD 0 default).a (exprR (tl T E 1)))) := by
  obtain ⟨Al, cl, rfl, hcll⟩ := row_shape hP.owl
  obtain ⟨Ai, ci, rfl, hci⟩ := row_shape hP.owi
  have hRl := h.lt
  have hnn := h.hn
  obtain ⟨t, ht⟩ : ∃ t, t = T.getD 0 default := ⟨_, rfl⟩
  have HTT := Lib.hid ht
  have HLG := Lib.hid hlg
  obtain ⟨c0, -, -, -, -, -⟩ := h.c0
  obtain ⟨k0, k1, k2, k3⟩ := h.tok 0 hn1
  rw [← ht] at k0 k1 k2 k3
  replace k0 : w.cell? ⟨g, 0, none⟩ = some (.int .i64 t.k) := by rw [Nat.zero_mul] at k0; exact k0
  replace k1 : w.cell? ⟨g, 1, none⟩ = some (.int .i64 t.a) := by rw [Nat.zero_mul, Nat.zero_add] at k1; exact k1
  replace k2 : w.cell? ⟨g, 2, none⟩ = some (.string (bs t.w)) := by rw [Nat.zero_mul, Nat.zero_add] at k2; exact k2
  replace k3 : w.cell? ⟨g, 3, none⟩ = some (.int .i64 t.n) := by rw [Nat.zero_mul, Nat.zero_add] at k3; exact k3
  have q0 : ∀ W : World, (Instr.indexAt 57 (.slice (some ⟨g, 0, none⟩) n c) (.int .i64 0)).run Tryd.prog W = .ok (.pointer (some ⟨g, 0, none⟩)) W := fun W => by
    have := idxTo g n c 0 hn1 W
    rw [Nat.zero_mul] at this
    exact this
  have J1 := Lib.hid (show LJ w (w.alloc (.cells #[.int .i64 t.k, .int .i64 t.a, .string (bs t.w), .int .i64 t.n] 61)) R g T n c 0 E 0 0 t P xs ls (.slice Ai xs.length ci) (.slice Al ls.length cl) from ⟨h.up _, (Fr.refl _ _).alloc _, heap_alloc_new w _, hP.keep (up _), hRl⟩)
  obtain ⟨w1, hw1⟩ : ∃ w1, w1 = w.alloc (.cells #[.int .i64 t.k, .int .i64 t.a, .string (bs t.w), .int .i64 t.n] 61) := ⟨_, rfl⟩
  rw [← hw1] at J1
  have HW1 := Lib.hid hw1
  have hgl := h.lg
  have htl := hT.len _ (getD_mem (T := T) (I := 0) (by omega))
  have HI := Lib.hid (fun (W : World) (hW : RZ W R g T n c 0 E (0 : Nat) 0 0) => (show Calls Tryd.prog 48 #[.pointer (some ⟨R, 0, none⟩), .string ⟨#[105, 110]⟩] W (fun e w' => e = .returned (.bool false) ∧ ∃ j, w' = W.drewN j) from is_any W R g n c 0 T E (0 : Nat) 0 0 hW [105, 110] false (fun a b => hT.kw _ (getD_mem (by rw [h.hn]; exact a)) (by rw [b]; decide)) (by symm; exact decide_eq_false (fun a => hw a.2))))
  have HP0 := Lib.hid (And.intro hP h.blk)
  have HWH := Lib.hid (fun (W : World) (hW : RZ W R g T n c 1 E (0 : Nat) 0 0) (hg : g < W.heap.size) => whole_any W R g n c 1 T E hW hg hn7 (by omega) hT hkk)
  have hn1x : ls.length + 1 ≤ maxLen := by unfold maxLen; omega
  have hn2x : (ls.length + 1) * 48 ≤ 140737488355328 := by omega
  obtain ⟨i0, hi, hz0, hz1, hz2⟩ := info_parts infoL
  have HI0 := Lib.hid (And.intro hi (And.intro hz0 (And.intro hz1 hz2)))
  clear hi hz0 hz1 hz2
  rw [← ht] at hk hw2 htl ⊢
  subst hov
  have hk1 : (t.k == 1) = true := by rw [hk]; rfl
  have hk2 : (t.k != 1) = false := by rw [hk]; rfl
  have d9 : ((bs t.w).toList == [111, 117, 116]) = true := cmpYes hw2
  clear h hP hlg hT ht hw1 hw hk hw2 htl hkk
  go_enter Tryd.func31, Tryd.ntmps31
  go_wp2_with fail
  rw [← HW1.out]
  refine (HI.out _ J1.out.rz).mono ?_
  rintro e w2 ⟨rfl, j2, e2⟩
  have J2 := Lib.hid (show LJ w w2 R g T n c 0 E 0 0 t P xs ls (.slice Ai xs.length ci) (.slice Al ls.length cl) by rw [e2]; exact J1.out.keep (below_drewN (Below.refl _ _) (Nat.le_refl _)))
  clear e2
  go_wp2_with fail
  refine (HI.out _ J2.out.rz).mono ?_
  rintro e w3 ⟨rfl, j3, e3⟩
  have J3 := Lib.hid (show LJ w w3 R g T n c 0 E 0 0 t P xs ls (.slice Ai xs.length ci) (.slice Al ls.length cl) by rw [e3]; exact J2.out.keep (below_drewN (Below.refl _ _) (Nat.le_refl _)))
  clear e3
  have K4 := Lib.hid (LK.start J3.out)
  obtain ⟨t0, t1, t2⟩ := J3.out.cells
  obtain ⟨-, d1, -, -, -, -⟩ := J3.out.rz.c0
  have f1 := frozen_of_row _ _ 1 _ _ J3.out.rz.blk
  have hRl3 := J3.out.rz.lt
  have hYl3 := heap_lt J3.out.tb
  have hRY : ¬ R = w.heap.size := by omega
  have hYR : ¬ w.heap.size = R := by omega
  clear c0 k0 k1 k2 k3 q0
  go_wp2_with fail
  obtain ⟨L, hL⟩ : ∃ L, L = w3.heap.size := ⟨_, rfl⟩
  rw [← hL] at K4
  rw [show (w3.setCell ⟨R, 1, none⟩ (.int .i64 1)).alloc (.cells #[.string ⟨#[]⟩, .int .i64 t.a, .slice none 0 0] 41) = lineW w3 R t.a from rfl]
  obtain ⟨w4, hw4⟩ : ∃ w4, w4 = lineW w3 R t.a := ⟨_, rfl⟩
  rw [← hw4] at K4
  rw [← hw4, ← hL]
  clear hw4 hL t0 t1 t2 d1 f1 hRl3 hYl3
  refine (HWH.out _ K4.out.j.rz (Nat.lt_of_lt_of_le HLG.out K4.out.j.fr.size)).mono ?_
  rintro e w8 ⟨A, m, k, l, rfl, o8, f8, hm8, I', fa, fc, z8, ok8⟩
  have K8 := Lib.hid (K4.out.fz z8 f8)
  obtain rfl := o8.len
  have O8 := Lib.hid o8
  have OK8 := Lib.hid ok8
  obtain ⟨-, -, -, lf⟩ := K8.out.cells
  obtain ⟨l0, l1, l2, -⟩ := K8.out.cells
  have lf2 := lf 2
  have hLl := heap_lt K8.out.lb
  have hPl8 := K8.out.j.ps.lt
  have K9 := Lib.hid (K8.out.setL HP0.out.1 HP0.out.2 HLG.out 2 (.slice A l.length k) [] (.slice A l.length k) rfl)
  clear lf o8 f8 z8 ok8 hm8 HWH
  go_wp2
  obtain ⟨w9, hw9⟩ : ∃ w9, w9 = w8.setCell ⟨L, 2, none⟩ (.slice A l.length k) := ⟨_, rfl⟩
  have HR9 := Lib.hid (show RdIt w9 A l by
    rw [hw9]
    exact RdI.grow O8.out.rd (by simp) fun b cs T' fr hb hT => Fr.set.heap_set_other (ty_ne hb K8.out.lb (by rcases hT with rfl | rfl <;> decide)))
  rw [← hw9] at K9 ⊢
  clear hw9 l0 l1 l2 lf2 hLl hPl8
  obtain ⟨l0, l1, l2, -⟩ := K9.out.cells
  obtain ⟨p0, p1, pf⟩ := K9.out.j.ps.cells
  have pf1 := pf 1
  have hPl := K9.out.j.ps.lt
  have hLl := heap_lt K9.out.lb
  have hLP : ¬ L = P := ty_ne K9.out.lb K9.out.j.ps.blk (by decide)
  have hPL : ¬ P = L := fun e => hLP e.symm
  have nP : (Value.slice Al ls.length cl).ownBlock ≠ some P := fun e => by have := (row_base K9.out.j.ps.owl e).1; omega
  have nL : (Value.slice Al ls.length cl).ownBlock ≠ some L := fun e => by have h1 := (row_base HP0.out.1.owl e).2; have := K9.out.hL; omega
  clear pf
  go_region_law ((refine step_append_lies _ (by rfl) _ _ _ (by rfl) (P + 1) 41 i0 _ 3 48 Tryd.underlying24 HI0.out.1 HI0.out.2.1 HI0.out.2.2.1 HI0.out.2.2.2 rfl (by omega) (.slice Al ls.length cl) ls.length (ls.flatMap LM.cells) (by rfl) ((K9.out.j.ps.owl.alloc _).drew) ⟨w9.heap.size, 0, none⟩ 1 1 [.string (bs []), .int .i64 t.a, .slice A l.length k] (by rfl) (by rfl) (World.news_of_block (cs := #[.string (bs []), .int .i64 t.a, .slice A l.length k]) (t := 41) (fr := (0, 0)) (heap_alloc_new w9 _)) (by intro u hu; simp at hu; rcases hu with rfl | rfl | rfl <;> rfl) (by omega) hn1x hn2x (by simp; omega) (w9.heap.size + 1) (by simp) ?_; intro q cap wz hownz hgrow hat hltz; have hPz := ((hgrow.block P (by simp; omega) (Ne.symm nP)).trans (heap_alloc_old w9 _ hPl)).trans K9.out.j.ps.blk; have y0 : wz.cell? ⟨P, 1, none⟩ = some (.slice Al ls.length cl) := (by rw [cell_of_row _ _ _ _ _ _ hPz]; rfl); have y1 : wz.frozen? ⟨P, 1, none⟩ = false := frozen_of_row _ _ _ _ _ hPz))
  all_goals
    have hPlz := heap_lt hPz
    have hadd := Lib.hid (K9.out.j.ps.addLn ⟨⟨[], t.a, l⟩, A, k⟩ (up_drew w9 _) hgrow hownz HR9.out O8.out.shape_le)
    have HAT := Lib.hid hat
    clear hgrow hownz hat hPz
    go_wp2
    refine bodyPost_ret (v := .tuple #[]) (by simp [results, Tryd.results31, go_sem]) rfl ?_
    have hF : Fr (fun k => k = R ∨ PM P (.slice Ai xs.length ci) (.slice Al ls.length cl) k) w (wz.setCell ⟨P, 1, none⟩ (.slice (some ⟨q, 0, none⟩) (ls.length + 1) cap)) := (LnAns.fr K9.out.j.fr).trans (hadd.out.2.weak fun _ _ e => .inr e)
    have hR9 := (hadd.out.2.block R K9.out.j.rz.lt (K9.out.j.ps.notR K9.out.j.rz.blk)).trans K9.out.j.rz.blk
    obtain ⟨y, hy⟩ : ∃ y, y = exprR (tl T E 1) := ⟨_, rfl⟩
    have ok8 := OK8.out
    rw [← hy] at ok8 ⊢
    cases y with
    | err a e =>
      obtain ⟨rfl, rfl, hne⟩ := ok8
      exact ⟨rfl, hF, I', _, _, hR9, rfl, rfl, hne⟩
    | ok its =>
      obtain ⟨rfl, rfl, rfl⟩ := ok8
      exact ⟨rfl, hF, I', 0, 0, hR9, rfl, rfl, xs, ls ++ [⟨⟨[], t.a, l⟩, A, k⟩], _, _, hadd.out.1, pg_ln rfl, NR.refl _ _, NR.of (HAT.out.imp id fun e => by have := K9.out.j.fr.size; omega) rfl, by simp; omega⟩
set_option maxRecDepth 100000 in
set_option maxHeartbeats 6400000 in
theorem line_g (w : World) (R g n c : Nat) (T : List Tk) (E : Int) (h : RZ w R g T n c 0 E (0 : Nat) 0 0) (hlg : g < w.heap.size) (hn1 : 0 < n) (hn7 : n ≤ 1000000) (hT : LT T) (P : Nat) (xs : List NM) (ls : List LM) (vi vl : Value) (hP : PS w P xs ls vi vl) (cnt : Nat) (ov : Bool) (hkk : ∀ t ∈ T, t.k = 1 ∨ t.k = 2 ∨ t.k = 3) (hl7 : ls.length ≤ 1000) (hc64 : decide ((64 : Int) ≤ (cnt : Int)) = false) (hc256 : decide ((256 : Int) < (n : Int)) = false) (hov : ov = false) (hw : ¬ (T.getD 0 default).w = [105, 110]) (hk : (T.getD 0 default).k = 1) (hw2 : ¬ (T.getD 0 default).w = [111, 117, 116]) (hnb : nameB (T.getD 0 default).w = true) (hn2 : 1 < n) (hcl : (T.getD 1 default).w = [58]) : Calls Tryd.prog 31 #[.pointer (some ⟨R, 0, none⟩), .pointer (some ⟨P, 0, none⟩), .int .i64 cnt, .bool ov] w (LnAns w R g T n c E P xs ls vi vl (lnOf (pgOf xs ls) (T.getD 0 default).w (T.getD 0 default).a (exprR (tl T E 2)))) := by
  obtain ⟨Al, cl, rfl, hcll⟩ := row_shape hP.owl
  obtain ⟨Ai, ci, rfl, hci⟩ := row_shape hP.owi
  have hRl := h.lt
  have hnn := h.hn
  obtain ⟨t, ht⟩ : ∃ t, t = T.getD 0 default := ⟨_, rfl⟩
  have HTT := Lib.hid ht
  have HLG := Lib.hid hlg
  obtain ⟨c0, -, -, -, -, -⟩ := h.c0
  obtain ⟨k0, k1, k2, k3⟩ := h.tok 0 hn1
  rw [← ht] at k0 k1 k2 k3
  replace k0 : w.cell? ⟨g, 0, none⟩ = some (.int .i64 t.k) := by rw [Nat.zero_mul] at k0; exact k0
  replace k1 : w.cell? ⟨g, 1, none⟩ = some (.int .i64 t.a) := by rw [Nat.zero_mul, Nat.zero_add] at k1; exact k1
  replace k2 : w.cell? ⟨g, 2, none⟩ = some (.string (bs t.w)) := by rw [Nat.zero_mul, Nat.zero_add] at k2; exact k2
  replace k3 : w.cell? ⟨g, 3, none⟩ = some (.int .i64 t.n) := by rw [Nat.zero_mul, Nat.zero_add] at k3; exact k3
  have q0 : ∀ W : World, (Instr.indexAt 57 (.slice (some ⟨g, 0, none⟩) n c) (.int .i64 0)).run Tryd.prog W = .ok (.pointer (some ⟨g, 0, none⟩)) W := fun W => by
    have := idxTo g n c 0 hn1 W
    rw [Nat.zero_mul] at this
    exact this
  have J1 := Lib.hid (show LJ w (w.alloc (.cells #[.int .i64 t.k, .int .i64 t.a, .string (bs t.w), .int .i64 t.n] 61)) R g T n c 0 E 0 0 t P xs ls (.slice Ai xs.length ci) (.slice Al ls.length cl) from ⟨h.up _, (Fr.refl _ _).alloc _, heap_alloc_new w _, hP.keep (up _), hRl⟩)
  obtain ⟨w1, hw1⟩ : ∃ w1, w1 = w.alloc (.cells #[.int .i64 t.k, .int .i64 t.a, .string (bs t.w), .int .i64 t.n] 61) := ⟨_, rfl⟩
  rw [← hw1] at J1
  have HW1 := Lib.hid hw1
  have hgl := h.lg
  have htl := hT.len _ (getD_mem (T := T) (I := 0) (by omega))
  have HI := Lib.hid (fun (W : World) (hW : RZ W R g T n c 0 E (0 : Nat) 0 0) => (show Calls Tryd.prog 48 #[.pointer (some ⟨R, 0, none⟩), .string ⟨#[105, 110]⟩] W (fun e w' => e = .returned (.bool false) ∧ ∃ j, w' = W.drewN j) from is_any W R g n c 0 T E (0 : Nat) 0 0 hW [105, 110] false (fun a b => hT.kw _ (getD_mem (by rw [h.hn]; exact a)) (by rw [b]; decide)) (by symm; exact decide_eq_false (fun a => hw a.2))))
  have HP0 := Lib.hid (And.intro hP h.blk)
  have HC := Lib.hid (fun (W : World) (hW : RZ W R g T n c 1 E (0 : Nat) 0 0) => (show Calls Tryd.prog 48 #[.pointer (some ⟨R, 0, none⟩), .string ⟨#[58]⟩] W (fun e w' => e = .returned (.bool true) ∧ ∃ j, w' = W.drewN j) from is_any W R g n c 1 T E (0 : Nat) 0 0 hW [58] true (fun a b => hT.kw _ (getD_mem (by rw [h.hn]; exact a)) (by rw [b]; decide)) (by symm; exact decide_eq_true ⟨hn2, hcl⟩)))
  have HWH := Lib.hid (fun (W : World) (hW : RZ W R g T n c 2 E (0 : Nat) 0 0) (hg : g < W.heap.size) => whole_any W R g n c 2 T E hW hg hn7 (by omega) hT hkk)
  have hn1x : ls.length + 1 ≤ maxLen := by unfold maxLen; omega
  have hn2x : (ls.length + 1) * 48 ≤ 140737488355328 := by omega
  obtain ⟨i0, hi, hz0, hz1, hz2⟩ := info_parts infoL
  have HI0 := Lib.hid (And.intro hi (And.intro hz0 (And.intro hz1 hz2)))
  clear hi hz0 hz1 hz2
  rw [← ht] at hk hw2 hnb htl ⊢
  subst hov
  have hk1 : (t.k == 1) = true := by rw [hk]; rfl
  have d9 : ((bs t.w).toList == [111, 117, 116]) = false := cmpNo hw2
  have HNM := Lib.hid (fun W => (show Calls Tryd.prog 18 #[.string (bs t.w)] W (fun e w' => e = .returned (.bool true) ∧ Below W.heap.size W w') from (by have h1 := rname_any t.w W (by omega); rw [hnb] at h1; exact h1)))
  clear h hP hlg hT ht hw1 hw hk hw2 hnb htl hcl hkk
  go_enter Tryd.func31, Tryd.ntmps31
  go_wp2_with fail
  rw [← HW1.out]
  refine (HI.out _ J1.out.rz).mono ?_
  rintro e w2 ⟨rfl, j2, e2⟩
  have J2 := Lib.hid (show LJ w w2 R g T n c 0 E 0 0 t P xs ls (.slice Ai xs.length ci) (.slice Al ls.length cl) by rw [e2]; exact J1.out.keep (below_drewN (Below.refl _ _) (Nat.le_refl _)))
  clear e2
  go_wp2_with fail
  refine (HI.out _ J2.out.rz).mono ?_
  rintro e w3 ⟨rfl, j3, e3⟩
  have J3 := Lib.hid (show LJ w w3 R g T n c 0 E 0 0 t P xs ls (.slice Ai xs.length ci) (.slice Al ls.length cl) by rw [e3]; exact J2.out.keep (below_drewN (Below.refl _ _) (Nat.le_refl _)))
  clear e3
  have K4 := Lib.hid (LK.start J3.out)
  obtain ⟨t0, t1, t2⟩ := J3.out.cells
  obtain ⟨-, d1, -, -, -, -⟩ := J3.out.rz.c0
  have f1 := frozen_of_row _ _ 1 _ _ J3.out.rz.blk
  have hRl3 := J3.out.rz.lt
  have hYl3 := heap_lt J3.out.tb
  have hRY : ¬ R = w.heap.size := by omega
  have hYR : ¬ w.heap.size = R := by omega
  clear c0 k0 k1 k2 k3 q0
  go_wp2_with fail
  refine (HNM.out _).mono ?_
  rintro e w5 ⟨rfl, g5⟩
  have K5 := Lib.hid (K4.out.keep g5)
  obtain ⟨L, hL⟩ : ∃ L, L = w3.heap.size := ⟨_, rfl⟩
  rw [← hL] at K5 ⊢
  clear g5 t0 t1 t2 d1 f1 hRl3 hYl3 hL
  obtain ⟨t0, t1, t2⟩ := K5.out.j.cells
  obtain ⟨l0, l1, l2, lf⟩ := K5.out.cells
  have lf0 := lf 0
  have hLl := heap_lt K5.out.lb
  have K6 := Lib.hid (K5.out.setL HP0.out.1 HP0.out.2 HLG.out 0 (.string (bs t.w)) t.w (.slice none 0 0) rfl)
  clear lf
  go_wp2_with fail
  refine (HC.out _ K6.out.j.rz).mono ?_
  rintro e w7 ⟨rfl, j7, e7⟩
  have K7 := Lib.hid (show LK w w7 R g T n c 1 E 0 0 t P xs ls (.slice Ai xs.length ci) (.slice Al ls.length cl) L t.w (.slice none 0 0) by rw [e7]; exact K6.out.keep (below_drewN (Below.refl _ _) (Nat.le_refl _)))
  clear e7 t0 t1 t2 l0 l1 l2 lf0 hLl
  obtain ⟨-, d1, -, -, -, -⟩ := K7.out.j.rz.c0
  have f1 := frozen_of_row _ _ 1 _ _ K7.out.j.rz.blk
  have hRl7 := K7.out.j.rz.lt
  have KB := Lib.hid (K7.out.setK 2 2 rfl)
  go_wp2_with fail
  refine (HWH.out _ KB.out.j.rz (Nat.lt_of_lt_of_le HLG.out KB.out.j.fr.size)).mono ?_
  rintro e w8 ⟨A, m, k, l, rfl, o8, f8, hm8, I', fa, fc, z8, ok8⟩
  have K8 := Lib.hid (KB.out.fz z8 f8)
  clear d1 f1 hRl7
  obtain rfl := o8.len
  have O8 := Lib.hid o8
  have OK8 := Lib.hid ok8
  obtain ⟨-, -, -, lf⟩ := K8.out.cells
  obtain ⟨l0, l1, l2, -⟩ := K8.out.cells
  have lf2 := lf 2
  have hLl := heap_lt K8.out.lb
  have hPl8 := K8.out.j.ps.lt
  have K9 := Lib.hid (K8.out.setL HP0.out.1 HP0.out.2 HLG.out 2 (.slice A l.length k) t.w (.slice A l.length k) rfl)
  clear lf o8 f8 z8 ok8 hm8 HWH
  go_wp2
  obtain ⟨w9, hw9⟩ : ∃ w9, w9 = w8.setCell ⟨L, 2, none⟩ (.slice A l.length k) := ⟨_, rfl⟩
  have HR9 := Lib.hid (show RdIt w9 A l by
    rw [hw9]
    exact RdI.grow O8.out.rd (by simp) fun b cs T' fr hb hT => Fr.set.heap_set_other (ty_ne hb K8.out.lb (by rcases hT with rfl | rfl <;> decide)))
  rw [← hw9] at K9 ⊢
  clear hw9 l0 l1 l2 lf2 hLl hPl8
  obtain ⟨l0, l1, l2, -⟩ := K9.out.cells
  obtain ⟨p0, p1, pf⟩ := K9.out.j.ps.cells
  have pf1 := pf 1
  have hPl := K9.out.j.ps.lt
  have hLl := heap_lt K9.out.lb
  have hLP : ¬ L = P := ty_ne K9.out.lb K9.out.j.ps.blk (by decide)
  have hPL : ¬ P = L := fun e => hLP e.symm
  have nP : (Value.slice Al ls.length cl).ownBlock ≠ some P := fun e => by have := (row_base K9.out.j.ps.owl e).1; omega
  have nL : (Value.slice Al ls.length cl).ownBlock ≠ some L := fun e => by have h1 := (row_base HP0.out.1.owl e).2; have := K9.out.hL; omega
  clear pf
  go_region_law ((refine step_append_lies _ (by rfl) _ _ _ (by rfl) (P + 1) 41 i0 _ 3 48 Tryd.underlying24 HI0.out.1 HI0.out.2.1 HI0.out.2.2.1 HI0.out.2.2.2 rfl (by omega) (.slice Al ls.length cl) ls.length (ls.flatMap LM.cells) (by rfl) ((K9.out.j.ps.owl.alloc _).drew) ⟨w9.heap.size, 0, none⟩ 1 1 [.string (bs t.w), .int .i64 t.a, .slice A l.length k] (by rfl) (by rfl) (World.news_of_block (cs := #[.string (bs t.w), .int .i64 t.a, .slice A l.length k]) (t := 41) (fr := (0, 0)) (heap_alloc_new w9 _)) (by intro u hu; simp at hu; rcases hu with rfl | rfl | rfl <;> rfl) (by omega) hn1x hn2x (by simp; omega) (w9.heap.size + 1) (by simp) ?_; intro q cap wz hownz hgrow hat hltz; have hPz := ((hgrow.block P (by simp; omega) (Ne.symm nP)).trans (heap_alloc_old w9 _ hPl)).trans K9.out.j.ps.blk; have y0 : wz.cell? ⟨P, 1, none⟩ = some (.slice Al ls.length cl) := (by rw [cell_of_row _ _ _ _ _ _ hPz]; rfl); have y1 : wz.frozen? ⟨P, 1, none⟩ = false := frozen_of_row _ _ _ _ _ hPz))
  all_goals
    have hPlz := heap_lt hPz
    have hadd := Lib.hid (K9.out.j.ps.addLn ⟨⟨t.w, t.a, l⟩, A, k⟩ (up_drew w9 _) hgrow hownz HR9.out O8.out.shape_le)
    have HAT := Lib.hid hat
    clear hgrow hownz hat hPz
    go_wp2
    refine bodyPost_ret (v := .tuple #[]) (by simp [results, Tryd.results31, go_sem]) rfl ?_
    have hF : Fr (fun k => k = R ∨ PM P (.slice Ai xs.length ci) (.slice Al ls.length cl) k) w (wz.setCell ⟨P, 1, none⟩ (.slice (some ⟨q, 0, none⟩) (ls.length + 1) cap)) := (LnAns.fr K9.out.j.fr).trans (hadd.out.2.weak fun _ _ e => .inr e)
    have hR9 := (hadd.out.2.block R K9.out.j.rz.lt (K9.out.j.ps.notR K9.out.j.rz.blk)).trans K9.out.j.rz.blk
    obtain ⟨y, hy⟩ : ∃ y, y = exprR (tl T E 2) := ⟨_, rfl⟩
    have ok8 := OK8.out
    rw [← hy] at ok8 ⊢
    cases y with
    | err a e =>
      obtain ⟨rfl, rfl, hne⟩ := ok8
      exact ⟨rfl, hF, I', _, _, hR9, rfl, rfl, hne⟩
    | ok its =>
      obtain ⟨rfl, rfl, rfl⟩ := ok8
      exact ⟨rfl, hF, I', 0, 0, hR9, rfl, rfl, xs, ls ++ [⟨⟨t.w, t.a, l⟩, A, k⟩], _, _, hadd.out.1, pg_ln rfl, NR.refl _ _, NR.of (HAT.out.imp id fun e => by have := K9.out.j.fr.size; omega) rfl, by simp; omega⟩
end Go.Proofs.YthdognmppbckbaaDoor
/- The document's line: its contract; lines one behind the other. -/
namespace Go.Proofs.YthdognmppbckbaaDoor
open Go.RowKit
set_option linter.unusedVariables false
set_option maxHeartbeats 1000000 in
theorem line04_any (w : World) (R g n c : Nat) (T : List Tk) (E : Int) (h : RZ w R g T n c 0 E (0 : Nat) 0 0) (hlg : g < w.heap.size) (hn1 : 0 < n) (hn7 : n ≤ 1000000) (hT : LT T) (hkk : ∀ t ∈ T, t.k = 1 ∨ t.k = 2 ∨ t.k = 3) (P : Nat) (xs : List NM) (ls : List LM) (vi vl : Value) (hP : PS w P xs ls vi vl) (cnt : Nat) (hcnt : cnt = xs.length + ls.length) (hc : cnt ≤ 64) (ov : Bool) (hov : ov = compl (pgOf xs ls)) :
    Calls Tryd.prog 31 #[.pointer (some ⟨R, 0, none⟩), .pointer (some ⟨P, 0, none⟩), .int .i64 cnt, .bool ov] w (LnAns w R g T n c E P xs ls vi vl (addR (pgOf xs ls) (tl T E 0))) := by
  have hnn := h.hn
  have hmem : T.getD 0 default ∈ T := getD_mem (by omega)
  rw [addR_tl hnn hT hn1]
  have e1 : (pgOf xs ls).ins.length + (pgOf xs ls).lns.length = cnt := by simp [pgOf, hcnt]
  rw [e1]
  by_cases h64 : cnt = 64
  · rw [if_pos h64]
    exact line_a w R g n c T E h hlg hn1 hn7 hT P xs ls vi vl hP cnt ov (by simp; omega)
  rw [if_neg h64]
  have c64 : decide ((64 : Int) ≤ (cnt : Int)) = false := by simp; omega
  by_cases h256 : 256 < n
  · rw [if_pos h256]
    exact line_b w R g n c T E h hlg hn1 hn7 hT P xs ls vi vl hP cnt ov c64 (by simp; omega) h256
  rw [if_neg h256]
  have c256 : decide ((256 : Int) < (n : Int)) = false := by simp; omega
  rw [← hov]
  cases ov with
  | true =>
    rw [if_pos rfl]
    exact line_c w R g n c T E h hlg hn1 hn7 hT P xs ls vi vl hP cnt true c64 c256 rfl
  | false =>
  rw [if_neg (by decide)]
  by_cases hin : (T.getD 0 default).w = [105, 110]
  · rw [if_pos hin]
    by_cases hl : 0 < ls.length
    · have e2 : addInR (pgOf xs ls) (T.getD 0 default) (tl T E 1) = .err (T.getD 0 default).a 40 := by unfold addInR; rw [if_pos (by simpa [pgOf] using hl)]
      rw [e2]
      exact line_d w R g n c T E h hlg hn1 hn7 hT P xs ls vi vl hP cnt false c64 c256 rfl hin hl (by omega)
    · rw [addIn_eq hT (by simpa [pgOf] using hl)]
      exact line_e w R g n c T E h hlg hn1 hn7 hT P xs ls vi vl hP cnt false hkk c64 c256 rfl hin (by omega) (by omega)
  rw [if_neg hin]
  by_cases hout : (T.getD 0 default).w = [111, 117, 116]
  · rw [if_pos hout, ln_of]
    have hk : (T.getD 0 default).k = 1 := by
      rcases hT.kw _ hmem (by rw [hout]; decide) with h1 | h1
      · exact h1
      · have := hT.k3 _ hmem h1; rw [hout] at this; exact absurd this (by decide)
    exact line_i w R g n c T E h hlg hn1 hn7 hT P xs ls vi vl hP cnt false hkk (by omega) c64 c256 rfl hin hk hout
  rw [if_neg hout]
  cases hnb : nameB (T.getD 0 default).w with
  | false =>
    rw [if_pos rfl]
    by_cases hk : (T.getD 0 default).k = 1
    · exact line_h2 w R g n c T E h hlg hn1 hn7 hT P xs ls vi vl hP cnt false c64 c256 rfl hin hk hout hnb
    · exact line_h1 w R g n c T E h hlg hn1 hn7 hT P xs ls vi vl hP cnt false c64 c256 rfl hin hk
  | true =>
    rw [if_neg (by decide)]
    have hk := hT.name hmem hnb
    rcases Nat.lt_or_ge 1 n with hn2 | hn2
    · rw [tl_head (by omega)]
      by_cases hcl : (T.getD 1 default).w = [58]
      · rw [if_neg (by simpa using hcl), tl_drop (by omega), ln_of]
        exact line_g w R g n c T E h hlg hn1 hn7 hT P xs ls vi vl hP cnt false hkk (by omega) c64 c256 rfl hin hk hout hnb hn2 hcl
      · rw [if_pos hcl]
        have := line_f w R g n c T E h hlg hn1 hn7 hT P xs ls vi vl hP cnt false c64 c256 rfl hin hk hout hnb (fun a => hcl a.2)
        unfold placeR at this
        rw [if_pos (by omega)] at this
        exact this
    · rw [tl_last (by omega), if_pos (by simp)]
      have := line_f w R g n c T E h hlg hn1 hn7 hT P xs ls vi vl hP cnt false c64 c256 rfl hin hk hout hnb (fun a => by omega)
      unfold placeR at this
      rw [if_neg (by omega)] at this
      exact this
/-! ### lines, one behind the other -/
theorem cut_line {U rest : List Tk} {t : Tk} (hU : ∀ u ∈ U, u.k ≠ 4) (ht : t.k = 4) : (U ++ t :: rest).findIdx isEnd = U.length := by
  induction U with
  | nil => simp [List.findIdx_cons, isEnd, ht]
  | cons u U ih =>
    have h1 : isEnd u = false := by unfold isEnd; exact decide_eq_false (hU u (by simp))
    rw [List.cons_append, List.findIdx_cons, h1, ih fun v hv => hU v (by simp [hv])]
    rfl
theorem cut_take {U rest : List Tk} {t : Tk} (hU : ∀ u ∈ U, u.k ≠ 4) (ht : t.k = 4) : (U ++ t :: rest).take (cutAt (U ++ t :: rest)) = U ++ [t] ∧ (U ++ t :: rest).drop (cutAt (U ++ t :: rest)) = rest := by
  have e : U ++ t :: rest = (U ++ [t]) ++ rest := by simp
  have hl : cutAt (U ++ t :: rest) = (U ++ [t]).length := by unfold cutAt; rw [cut_line hU ht]; simp
  rw [hl, e]
  exact ⟨List.take_left, List.drop_left⟩
theorem line_bad {e : Int} {p : Pg} {U rest : List Tk} {t : Tk} (hU : ∀ u ∈ U, u.k ≠ 4) (ht : t.k = 4) {a c : Int} (h : addR p (U ++ [t]) = .err a c) : linesR e p (U ++ t :: rest) = .err a c := by
  have h1 := cut_take (rest := rest) hU ht
  cases hx : U ++ t :: rest with
  | nil => simp at hx
  | cons f r =>
    rw [hx] at h1
    exact lines_err (by rw [h1.1]; exact h)
theorem line_good {e : Int} {p q : Pg} {U rest : List Tk} {t : Tk} (hU : ∀ u ∈ U, u.k ≠ 4) (ht : t.k = 4) (h : addR p (U ++ [t]) = .ok q) : linesR e p (U ++ t :: rest) = linesR e q rest := by
  have h1 := cut_take (rest := rest) hU ht
  cases hx : U ++ t :: rest with
  | nil => simp at hx
  | cons f r =>
    rw [hx] at h1
    rw [lines_ok (by rw [h1.1]; exact h), h1.2]
theorem line_none {e : Int} {p : Pg} {rest : List Tk} {t : Tk} (ht : t.k = 4) : linesR e p (t :: rest) = linesR e p rest := line_good (U := []) (fun u hu => by cases hu) ht (by show addR p [t] = .ok p; unfold addR; simp only; rw [if_pos ht])
theorem refl_own (s : ByteArray) (w : World) (ts : List Tk) (hx : lexR s.data.toList = .ok ts) (hs : s.size ≤ 140737488355328) : Calls Tryd.prog 30 #[.string s] w (LexOwn w ts) := by
  have h := reflex_any s w hs
  rw [hx] at h
  exact h.mono fun _ _ ⟨A, c, he, ho, hb⟩ => ⟨A, c, he, ho, hb⟩
theorem refl_err (s : ByteArray) (w : World) (a x : Int) (hx : lexR s.data.toList = .err a x) (hs : s.size ≤ 140737488355328) : Calls Tryd.prog 30 #[.string s] w (fun e w' => ∃ A c, e = .returned (.tuple #[.slice A 0 c, .agg #[.int .i64 a, .int .i64 x]]) ∧ Below w.heap.size w w') := by
  have h := reflex_any s w hs
  rw [hx] at h
  exact h.mono fun _ _ ⟨A, c, he, ho, hb⟩ => ⟨A, c, he, hb⟩
/-- What a lexed text's tokens are like. -/
theorem lex_lt {l : List UInt8} {ts : List Tk} (h : lexR l = .ok ts) : ∀ t ∈ ts, Tok t ∧ (t.k = 1 → wordB t.w = true) ∧ (t.k = 3 → wordB t.w = false) := by
  unfold lexR at h
  split at h
  · cases h
  · exact fun t ht => ⟨(lex_tokS _ l 0 (Nat.le_refl _) ts h).1 t ht, lex_words _ l 0 (Nat.le_refl _) ts h t ht⟩
theorem lt_of {U : List Tk} (h : ∀ t ∈ U, Tok t ∧ (t.k = 1 → wordB t.w = true) ∧ (t.k = 3 → wordB t.w = false)) (h4 : ∀ t ∈ U, t.k ≠ 4) : LT U ∧ ∀ t ∈ U, t.k = 1 ∨ t.k = 2 ∨ t.k = 3 := by
  have hkk : ∀ t ∈ U, t.k = 1 ∨ t.k = 2 ∨ t.k = 3 := fun t ht => by
    rcases (h t ht).1.1 with h1 | h1 | h1 | h1
    · exact .inl h1
    · exact .inr (.inl h1)
    · exact .inr (.inr h1)
    · exact (h4 t ht h1).elim
  refine ⟨⟨h4, fun t ht => (h t ht).1.2.2.1, fun t ht hw => ?_, fun t ht => (h t ht).2.1, fun t ht => (h t ht).2.2, fun t ht => (h t ht).1.2.2.2.2⟩, hkk⟩
  rcases hkk t ht with h1 | h1 | h1
  · exact .inl h1
  · exact (hw ((h t ht).1.2.2.1 h1)).elim
  · exact .inr h1
end Go.Proofs.YthdognmppbckbaaDoor
