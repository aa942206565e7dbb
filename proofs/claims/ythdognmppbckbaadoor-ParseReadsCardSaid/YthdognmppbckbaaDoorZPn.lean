/- The document's Reader: phrase, with a mark, and not found (1). -/
import Derived.Test.YthdognmppbckbaaDoorZPm
namespace Go.Proofs.YthdognmppbckbaaDoor
open Go.RowKit
set_option linter.unusedVariables false
set_option maxRecDepth 100000 in
set_option maxHeartbeats 1600000 in
theorem phrase_b47fz (w : World) (R g n c I : Nat) (T : List Tk) (E D : Int) (h : RZ w R g T n c I E D 0 0) (hlg : g < w.heap.size) (hI : I < n) (hn7 : n ≤ 1000000) (hI1 : I + 1 < n) (hmw : (T.getD (I + 1) default).w = [47]) (hkk : (T.getD (I + 1) default).k = 1 ∨ (T.getD (I + 1) default).k = 3) (f : Int) (hf : f = verbR (T.getD I default).w true) (hf0 : (f != 0) = false) :
    Calls Tryd.prog 83 #[.pointer (some ⟨R, 0, none⟩), .bool false] w fun e w' => (∃ x y z, e = .returned (phV x y z)) ∧ RZ w' R g T n c I E D (T.getD I default).a 43 ∧ Fr (fun k => k = R) w w' := by
  obtain ⟨t, ht⟩ : ∃ t, t = T.getD I default := ⟨_, rfl⟩
  have H := Lib.hid h
  obtain ⟨_, k1, k2, _⟩ := h.tok I hI
  obtain ⟨c0, c1, -⟩ := h.c0
  have hlt := h.lt
  have HP := Lib.hid (show placeR T I E = (T.getD I default).a by unfold placeR; rw [if_pos (by rw [h.hn]; exact hI)])
  rw [← ht] at k1 k2 hf HP ⊢
  have HK2 := Lib.hid k2
  have q1 := idxTo g n c I hI
  have HVb := Lib.hid (fun W => rverb_any t.w false W)
  have HVt := Lib.hid (fun W => rverb_any t.w true W)
  rw [← hf] at HVt
  obtain ⟨f0, hf00⟩ : ∃ f0, f0 = verbR t.w false := ⟨_, rfl⟩
  rw [← hf00] at HVb
  clear hf00
  obtain ⟨bb, hbb⟩ : ∃ bb, bb = (f0 != 0) := ⟨_, rfl⟩
  rw [← hbb] at HVb
  clear hbb
  have HIS47 := Lib.hid (fun (W : World) (h : RZ W R g T n c (I + 1) E D 0 0) => (show Calls Tryd.prog 48 #[.pointer (some ⟨R, 0, none⟩), .string ⟨#[47]⟩] W (fun e w' => e = .returned (.bool true) ∧ ∃ j, w' = W.drewN j) from is_any W R g n c (I + 1) T E D 0 0 h [47] true (fun _ _ => hkk) (by rw [hmw]; simp [hI1])))
  have HIS92 := Lib.hid (fun (W : World) (h : RZ W R g T n c (I + 1) E D 0 0) => (show Calls Tryd.prog 48 #[.pointer (some ⟨R, 0, none⟩), .string ⟨#[92]⟩] W (fun e w' => e = .returned (.bool false) ∧ ∃ j, w' = W.drewN j) from is_any W R g n c (I + 1) T E D 0 0 h [92] false (fun _ _ => hkk) (by rw [hmw]; simp)))
  have HIS46 := Lib.hid (fun (W : World) (h : RZ W R g T n c (I + 1) E D 0 0) => (show Calls Tryd.prog 48 #[.pointer (some ⟨R, 0, none⟩), .string ⟨#[46]⟩] W (fun e w' => e = .returned (.bool false) ∧ ∃ j, w' = W.drewN j) from is_any W R g n c (I + 1) T E D 0 0 h [46] false (fun _ _ => hkk) (by rw [hmw]; simp)))
  have Z0 := Lib.hid (PZ.start h t.a)
  have HT := Lib.hid (fun (W : World) (hF : Fr (fun k => k = R) w W) => show W.cell? ⟨g, I * 4 + 2, none⟩ = some (.string (bs t.w)) from (World.cell?_of_block (a := ⟨g, I * 4 + 2, none⟩) (hF.block g hlg h.ne)).trans k2)
  have HMM := Lib.hid (And.intro hmw (And.intro hkk hI1))
  clear h hf ht k2 hmw hkk hI1
  go_enter Tryd.func83, Tryd.ntmps83
  go_wp2
  go_region
  obtain ⟨W1, hW1⟩ : ∃ W1, W1 = ((w.alloc (.cells #[.int .i64 0, .int .i64 0, .int .u8 0, .string ⟨#[]⟩, .slice none 0 0] 52)).alloc (.cells #[.int .i64 3, .int .i64 t.a, .int .u8 0, .string ⟨#[]⟩, .slice none 0 0] 52)).drew := ⟨_, rfl⟩
  rw [← hW1]
  have Z1 := Z0.out
  rw [← hW1] at Z1
  have HZ1 := Lib.hid Z1
  have cz := Z1.cells
  clear hW1 c0 c1 k1 Z0 Z1
  have u0 := fun j => (show (W1.drewN j).cell? ⟨R, 0, none⟩ = some (.slice (some ⟨g, 0, none⟩) n c) from cz.r0)
  have u1 := fun j => (show (W1.drewN j).cell? ⟨R, 1, none⟩ = some (.int .i64 I) from cz.r1)
  have u3 := fun j => (show (W1.drewN j).frozen? ⟨R, 1, none⟩ = false from cz.rf)
  have u2 := fun j => (show (W1.drewN j).cell? ⟨g, I * 4 + 2, none⟩ = some (.string (bs t.w)) from HT.out W1 HZ1.out.fr)
  clear cz
  go_wp2
  go_quiet (fail)
  go_wp2_with fail
  refine (HVb.out _).mono ?_
  rintro e w5 ⟨rfl, e5⟩
  have Z2 := Lib.hid (show PZ w w5 R g T n c (I + 1) E D 3 t.a 0 by rw [e5]; exact (HZ1.out.drewN nq).setI (I + 1) _ rfl)
  clear e5 u0 u1 u2 u3
  go_wp2_with fail
  refine (HIS47.out _ Z2.out.rz).mono ?_
  rintro e w6 ⟨rfl, j6, e6⟩
  have Z6 := Lib.hid (show PZ w w6 R g T n c (I + 1) E D 3 t.a 0 by rw [e6]; exact Z2.out.drewN j6)
  clear e6
  go_wp2_with fail
  refine (HIS46.out _ Z6.out.rz).mono ?_
  rintro e w7 ⟨rfl, j7, e7⟩
  have Z7 := Lib.hid (show PZ w w7 R g T n c (I + 1) E D 3 t.a 0 by rw [e7]; exact Z6.out.drewN j7)
  clear e7
  have x0 := Z7.out.cells.x0
  have xf0 := Z7.out.cells.xf 0
  go_wp2_with fail
  clear x0 xf0
  refine (HIS47.out _ (Z7.out.setX 0 (.int .i64 6) 6 0 rfl).rz).mono ?_
  rintro e w8 ⟨rfl, j8, e8⟩
  have Z8 := Lib.hid (show PZ w w8 R g T n c (I + 1) E D 6 t.a 0 by rw [e8]; exact (Z7.out.setX 0 (.int .i64 6) 6 0 rfl).drewN j8)
  clear e8
  have x0 := Z8.out.cells.x0
  have xf0 := Z8.out.cells.xf 0
  go_wp2_with fail
  clear x0 xf0
  refine (HVt.out _).mono ?_
  rintro e w9 ⟨rfl, e9⟩
  have Z9 := Lib.hid (show PZ w w9 R g T n c (I + 1) E D 5 t.a 0 by rw [e9]; exact (Z8.out.setX 0 (.int .i64 5) 5 0 rfl))
  clear e9
  obtain ⟨-, r1, rf, -⟩ := Z9.out.cells
  go_wp2_with fail
  have Z6 := Lib.hid ((Z9.out.setI (I + 2) ((I : Int) + 1 + 1) (by omega)).setI I I rfl)
  refine (no_any _ R g n c I T E D 0 0 43 Z6.out.rz).mono ?_
  rintro e w9 ⟨rfl, z9, f9⟩
  have hR := Z6.out.lt
  have a1 : ¬ R = w.heap.size + 1 := by omega
  have a2 : ¬ g = w.heap.size + 1 := by omega
  have a3 : ¬ R = w.heap.size := by omega
  have a4 : ¬ g = w.heap.size := by omega
  have it9 := (f9.block (w.heap.size + 1) (heap_lt Z6.out.it) (by omega)).trans Z6.out.it
  have re9 := (f9.block w.heap.size (heap_lt Z6.out.res) (by omega)).trans Z6.out.res
  have x0 : w9.cell? ⟨w.heap.size + 1, 0, none⟩ = some (.int .i64 5) := by rw [cell_of_row _ _ _ _ _ _ it9]; rfl
  have x1 : w9.cell? ⟨w.heap.size + 1, 1, none⟩ = some (.int .i64 t.a) := by rw [cell_of_row _ _ _ _ _ _ it9]; rfl
  have x2 : w9.cell? ⟨w.heap.size + 1, 2, none⟩ = some (.int .u8 0) := by rw [cell_of_row _ _ _ _ _ _ it9]; rfl
  have x3 : w9.cell? ⟨w.heap.size + 1, 3, none⟩ = some (.string ⟨#[]⟩) := by rw [cell_of_row _ _ _ _ _ _ it9]; rfl
  have x4 : w9.cell? ⟨w.heap.size + 1, 4, none⟩ = some (.slice none 0 0) := by rw [cell_of_row _ _ _ _ _ _ it9]; rfl
  have xf2 : w9.frozen? ⟨w.heap.size + 1, 2, none⟩ = false := frozen_of_row _ _ _ _ _ it9
  have y0 : w9.cell? ⟨w.heap.size, 0, none⟩ = some (.int .i64 0) := by rw [cell_of_row _ _ _ _ _ _ re9]; rfl
  have y1 : w9.cell? ⟨w.heap.size, 1, none⟩ = some (.int .i64 0) := by rw [cell_of_row _ _ _ _ _ _ re9]; rfl
  have y2 : w9.cell? ⟨w.heap.size, 2, none⟩ = some (.int .u8 0) := by rw [cell_of_row _ _ _ _ _ _ re9]; rfl
  have y3 : w9.cell? ⟨w.heap.size, 3, none⟩ = some (.string ⟨#[]⟩) := by rw [cell_of_row _ _ _ _ _ _ re9]; rfl
  have y4 : w9.cell? ⟨w.heap.size, 4, none⟩ = some (.slice none 0 0) := by rw [cell_of_row _ _ _ _ _ _ re9]; rfl
  have yf0 : w9.frozen? ⟨w.heap.size, 0, none⟩ = false := frozen_of_row _ _ _ _ _ re9
  have yf1 : w9.frozen? ⟨w.heap.size, 1, none⟩ = false := frozen_of_row _ _ _ _ _ re9
  have yf2 : w9.frozen? ⟨w.heap.size, 2, none⟩ = false := frozen_of_row _ _ _ _ _ re9
  have yf3 : w9.frozen? ⟨w.heap.size, 3, none⟩ = false := frozen_of_row _ _ _ _ _ re9
  have yf4 : w9.frozen? ⟨w.heap.size, 4, none⟩ = false := frozen_of_row _ _ _ _ _ re9
  rw [HP.out] at z9
  have F9 : Fr (fun k => k = R) w w9 := Z6.out.fr.trans f9
  have hfin := Lib.hid (And.intro ((((((z9.far a1 a2 2 (.int .u8 f)).far a3 a4 0 (.int .i64 5)).far a3 a4 1 (.int .i64 t.a)).far a3 a4 2 (.int .u8 f)).far a3 a4 3 (.string ⟨#[]⟩)).far a3 a4 4 (.slice none 0 0))
    ((((((F9.set (b := w.heap.size + 1) (.inr (by omega)) 2 (.int .u8 f)).set (b := w.heap.size) (.inr (Nat.le_refl _)) 0 (.int .i64 5)).set (b := w.heap.size) (.inr (Nat.le_refl _)) 1 (.int .i64 t.a)).set (b := w.heap.size) (.inr (Nat.le_refl _)) 2 (.int .u8 f)).set (b := w.heap.size) (.inr (Nat.le_refl _)) 3 (.string ⟨#[]⟩)).set (b := w.heap.size) (.inr (Nat.le_refl _)) 4 (.slice none 0 0)))
  clear it9 re9 z9 f9 F9 r1 rf
  go_wp2
  refine bodyPost_ret (v := phV 5 t.a f) (by unfold phV; simp [results, Tryd.results83, go_sem, y0, y1, y2, y3, y4]) rfl ⟨⟨_, _, _, rfl⟩, hfin.out⟩
set_option maxRecDepth 100000 in
set_option maxHeartbeats 1600000 in
theorem phrase_b47fg (w : World) (R g n c I : Nat) (T : List Tk) (E D : Int) (h : RZ w R g T n c I E D 0 0) (hlg : g < w.heap.size) (hI : I < n) (hn7 : n ≤ 1000000) (hI1 : I + 1 < n) (hmw : (T.getD (I + 1) default).w = [47]) (hkk : (T.getD (I + 1) default).k = 1 ∨ (T.getD (I + 1) default).k = 3) (f : Int) (hf : f = verbR (T.getD I default).w true) (hf0 : (f != 0) = true) (hf17 : decide (f ≤ 17) = false) :
    Calls Tryd.prog 83 #[.pointer (some ⟨R, 0, none⟩), .bool false] w fun e w' => (∃ x y z, e = .returned (phV x y z)) ∧ RZ w' R g T n c I E D (T.getD I default).a 43 ∧ Fr (fun k => k = R) w w' := by
  obtain ⟨t, ht⟩ : ∃ t, t = T.getD I default := ⟨_, rfl⟩
  have H := Lib.hid h
  obtain ⟨_, k1, k2, _⟩ := h.tok I hI
  obtain ⟨c0, c1, -⟩ := h.c0
  have hlt := h.lt
  have HP := Lib.hid (show placeR T I E = (T.getD I default).a by unfold placeR; rw [if_pos (by rw [h.hn]; exact hI)])
  rw [← ht] at k1 k2 hf HP ⊢
  have HK2 := Lib.hid k2
  have q1 := idxTo g n c I hI
  have HVb := Lib.hid (fun W => rverb_any t.w false W)
  have HVt := Lib.hid (fun W => rverb_any t.w true W)
  rw [← hf] at HVt
  obtain ⟨f0, hf00⟩ : ∃ f0, f0 = verbR t.w false := ⟨_, rfl⟩
  rw [← hf00] at HVb
  clear hf00
  obtain ⟨bb, hbb⟩ : ∃ bb, bb = (f0 != 0) := ⟨_, rfl⟩
  rw [← hbb] at HVb
  clear hbb
  have HIS47 := Lib.hid (fun (W : World) (h : RZ W R g T n c (I + 1) E D 0 0) => (show Calls Tryd.prog 48 #[.pointer (some ⟨R, 0, none⟩), .string ⟨#[47]⟩] W (fun e w' => e = .returned (.bool true) ∧ ∃ j, w' = W.drewN j) from is_any W R g n c (I + 1) T E D 0 0 h [47] true (fun _ _ => hkk) (by rw [hmw]; simp [hI1])))
  have HIS92 := Lib.hid (fun (W : World) (h : RZ W R g T n c (I + 1) E D 0 0) => (show Calls Tryd.prog 48 #[.pointer (some ⟨R, 0, none⟩), .string ⟨#[92]⟩] W (fun e w' => e = .returned (.bool false) ∧ ∃ j, w' = W.drewN j) from is_any W R g n c (I + 1) T E D 0 0 h [92] false (fun _ _ => hkk) (by rw [hmw]; simp)))
  have HIS46 := Lib.hid (fun (W : World) (h : RZ W R g T n c (I + 1) E D 0 0) => (show Calls Tryd.prog 48 #[.pointer (some ⟨R, 0, none⟩), .string ⟨#[46]⟩] W (fun e w' => e = .returned (.bool false) ∧ ∃ j, w' = W.drewN j) from is_any W R g n c (I + 1) T E D 0 0 h [46] false (fun _ _ => hkk) (by rw [hmw]; simp)))
  have Z0 := Lib.hid (PZ.start h t.a)
  have HT := Lib.hid (fun (W : World) (hF : Fr (fun k => k = R) w W) => show W.cell? ⟨g, I * 4 + 2, none⟩ = some (.string (bs t.w)) from (World.cell?_of_block (a := ⟨g, I * 4 + 2, none⟩) (hF.block g hlg h.ne)).trans k2)
  have HMM := Lib.hid (And.intro hmw (And.intro hkk hI1))
  clear h hf ht k2 hmw hkk hI1
  go_enter Tryd.func83, Tryd.ntmps83
  go_wp2
  go_region
  obtain ⟨W1, hW1⟩ : ∃ W1, W1 = ((w.alloc (.cells #[.int .i64 0, .int .i64 0, .int .u8 0, .string ⟨#[]⟩, .slice none 0 0] 52)).alloc (.cells #[.int .i64 3, .int .i64 t.a, .int .u8 0, .string ⟨#[]⟩, .slice none 0 0] 52)).drew := ⟨_, rfl⟩
  rw [← hW1]
  have Z1 := Z0.out
  rw [← hW1] at Z1
  have HZ1 := Lib.hid Z1
  have cz := Z1.cells
  clear hW1 c0 c1 k1 Z0 Z1
  have u0 := fun j => (show (W1.drewN j).cell? ⟨R, 0, none⟩ = some (.slice (some ⟨g, 0, none⟩) n c) from cz.r0)
  have u1 := fun j => (show (W1.drewN j).cell? ⟨R, 1, none⟩ = some (.int .i64 I) from cz.r1)
  have u3 := fun j => (show (W1.drewN j).frozen? ⟨R, 1, none⟩ = false from cz.rf)
  have u2 := fun j => (show (W1.drewN j).cell? ⟨g, I * 4 + 2, none⟩ = some (.string (bs t.w)) from HT.out W1 HZ1.out.fr)
  clear cz
  go_wp2
  go_quiet (fail)
  go_wp2_with fail
  refine (HVb.out _).mono ?_
  rintro e w5 ⟨rfl, e5⟩
  have Z2 := Lib.hid (show PZ w w5 R g T n c (I + 1) E D 3 t.a 0 by rw [e5]; exact (HZ1.out.drewN nq).setI (I + 1) _ rfl)
  clear e5 u0 u1 u2 u3
  go_wp2_with fail
  refine (HIS47.out _ Z2.out.rz).mono ?_
  rintro e w6 ⟨rfl, j6, e6⟩
  have Z6 := Lib.hid (show PZ w w6 R g T n c (I + 1) E D 3 t.a 0 by rw [e6]; exact Z2.out.drewN j6)
  clear e6
  go_wp2_with fail
  refine (HIS46.out _ Z6.out.rz).mono ?_
  rintro e w7 ⟨rfl, j7, e7⟩
  have Z7 := Lib.hid (show PZ w w7 R g T n c (I + 1) E D 3 t.a 0 by rw [e7]; exact Z6.out.drewN j7)
  clear e7
  have x0 := Z7.out.cells.x0
  have xf0 := Z7.out.cells.xf 0
  go_wp2_with fail
  clear x0 xf0
  refine (HIS47.out _ (Z7.out.setX 0 (.int .i64 6) 6 0 rfl).rz).mono ?_
  rintro e w8 ⟨rfl, j8, e8⟩
  have Z8 := Lib.hid (show PZ w w8 R g T n c (I + 1) E D 6 t.a 0 by rw [e8]; exact (Z7.out.setX 0 (.int .i64 6) 6 0 rfl).drewN j8)
  clear e8
  have x0 := Z8.out.cells.x0
  have xf0 := Z8.out.cells.xf 0
  go_wp2_with fail
  clear x0 xf0
  refine (HVt.out _).mono ?_
  rintro e w9 ⟨rfl, e9⟩
  have Z9 := Lib.hid (show PZ w w9 R g T n c (I + 1) E D 5 t.a 0 by rw [e9]; exact (Z8.out.setX 0 (.int .i64 5) 5 0 rfl))
  clear e9
  obtain ⟨-, r1, rf, -⟩ := Z9.out.cells
  go_wp2_with fail
  have Z6 := Lib.hid ((Z9.out.setI (I + 2) ((I : Int) + 1 + 1) (by omega)).setI I I rfl)
  refine (no_any _ R g n c I T E D 0 0 43 Z6.out.rz).mono ?_
  rintro e w9 ⟨rfl, z9, f9⟩
  have hR := Z6.out.lt
  have a1 : ¬ R = w.heap.size + 1 := by omega
  have a2 : ¬ g = w.heap.size + 1 := by omega
  have a3 : ¬ R = w.heap.size := by omega
  have a4 : ¬ g = w.heap.size := by omega
  have it9 := (f9.block (w.heap.size + 1) (heap_lt Z6.out.it) (by omega)).trans Z6.out.it
  have re9 := (f9.block w.heap.size (heap_lt Z6.out.res) (by omega)).trans Z6.out.res
  have x0 : w9.cell? ⟨w.heap.size + 1, 0, none⟩ = some (.int .i64 5) := by rw [cell_of_row _ _ _ _ _ _ it9]; rfl
  have x1 : w9.cell? ⟨w.heap.size + 1, 1, none⟩ = some (.int .i64 t.a) := by rw [cell_of_row _ _ _ _ _ _ it9]; rfl
  have x2 : w9.cell? ⟨w.heap.size + 1, 2, none⟩ = some (.int .u8 0) := by rw [cell_of_row _ _ _ _ _ _ it9]; rfl
  have x3 : w9.cell? ⟨w.heap.size + 1, 3, none⟩ = some (.string ⟨#[]⟩) := by rw [cell_of_row _ _ _ _ _ _ it9]; rfl
  have x4 : w9.cell? ⟨w.heap.size + 1, 4, none⟩ = some (.slice none 0 0) := by rw [cell_of_row _ _ _ _ _ _ it9]; rfl
  have xf2 : w9.frozen? ⟨w.heap.size + 1, 2, none⟩ = false := frozen_of_row _ _ _ _ _ it9
  have y0 : w9.cell? ⟨w.heap.size, 0, none⟩ = some (.int .i64 0) := by rw [cell_of_row _ _ _ _ _ _ re9]; rfl
  have y1 : w9.cell? ⟨w.heap.size, 1, none⟩ = some (.int .i64 0) := by rw [cell_of_row _ _ _ _ _ _ re9]; rfl
  have y2 : w9.cell? ⟨w.heap.size, 2, none⟩ = some (.int .u8 0) := by rw [cell_of_row _ _ _ _ _ _ re9]; rfl
  have y3 : w9.cell? ⟨w.heap.size, 3, none⟩ = some (.string ⟨#[]⟩) := by rw [cell_of_row _ _ _ _ _ _ re9]; rfl
  have y4 : w9.cell? ⟨w.heap.size, 4, none⟩ = some (.slice none 0 0) := by rw [cell_of_row _ _ _ _ _ _ re9]; rfl
  have yf0 : w9.frozen? ⟨w.heap.size, 0, none⟩ = false := frozen_of_row _ _ _ _ _ re9
  have yf1 : w9.frozen? ⟨w.heap.size, 1, none⟩ = false := frozen_of_row _ _ _ _ _ re9
  have yf2 : w9.frozen? ⟨w.heap.size, 2, none⟩ = false := frozen_of_row _ _ _ _ _ re9
  have yf3 : w9.frozen? ⟨w.heap.size, 3, none⟩ = false := frozen_of_row _ _ _ _ _ re9
  have yf4 : w9.frozen? ⟨w.heap.size, 4, none⟩ = false := frozen_of_row _ _ _ _ _ re9
  rw [HP.out] at z9
  have F9 : Fr (fun k => k = R) w w9 := Z6.out.fr.trans f9
  have hfin := Lib.hid (And.intro ((((((z9.far a1 a2 2 (.int .u8 f)).far a3 a4 0 (.int .i64 5)).far a3 a4 1 (.int .i64 t.a)).far a3 a4 2 (.int .u8 f)).far a3 a4 3 (.string ⟨#[]⟩)).far a3 a4 4 (.slice none 0 0))
    ((((((F9.set (b := w.heap.size + 1) (.inr (by omega)) 2 (.int .u8 f)).set (b := w.heap.size) (.inr (Nat.le_refl _)) 0 (.int .i64 5)).set (b := w.heap.size) (.inr (Nat.le_refl _)) 1 (.int .i64 t.a)).set (b := w.heap.size) (.inr (Nat.le_refl _)) 2 (.int .u8 f)).set (b := w.heap.size) (.inr (Nat.le_refl _)) 3 (.string ⟨#[]⟩)).set (b := w.heap.size) (.inr (Nat.le_refl _)) 4 (.slice none 0 0)))
  clear it9 re9 z9 f9 F9 r1 rf
  go_wp2
  refine bodyPost_ret (v := phV 5 t.a f) (by unfold phV; simp [results, Tryd.results83, go_sem, y0, y1, y2, y3, y4]) rfl ⟨⟨_, _, _, rfl⟩, hfin.out⟩
set_option maxRecDepth 100000 in
set_option maxHeartbeats 1600000 in
theorem phrase_b47tz (w : World) (R g n c I : Nat) (T : List Tk) (E D : Int) (h : RZ w R g T n c I E D 0 0) (hlg : g < w.heap.size) (hI : I < n) (hn7 : n ≤ 1000000) (hI1 : I + 1 < n) (hmw : (T.getD (I + 1) default).w = [47]) (hkk : (T.getD (I + 1) default).k = 1 ∨ (T.getD (I + 1) default).k = 3) (f : Int) (hf : f = verbR (T.getD I default).w true) (hf0 : (f != 0) = false) :
    Calls Tryd.prog 83 #[.pointer (some ⟨R, 0, none⟩), .bool true] w fun e w' => (∃ x y z, e = .returned (phV x y z)) ∧ RZ w' R g T n c I E D (T.getD I default).a 43 ∧ Fr (fun k => k = R) w w' := by
  obtain ⟨t, ht⟩ : ∃ t, t = T.getD I default := ⟨_, rfl⟩
  have H := Lib.hid h
  obtain ⟨_, k1, k2, _⟩ := h.tok I hI
  obtain ⟨c0, c1, -⟩ := h.c0
  have hlt := h.lt
  have HP := Lib.hid (show placeR T I E = (T.getD I default).a by unfold placeR; rw [if_pos (by rw [h.hn]; exact hI)])
  rw [← ht] at k1 k2 hf HP ⊢
  have HK2 := Lib.hid k2
  have q1 := idxTo g n c I hI
  have HVb := Lib.hid (fun W => rverb_any t.w true W)
  have HVt := Lib.hid (fun W => rverb_any t.w true W)
  rw [← hf] at HVt
  rw [← hf] at HVb
  have HIS47 := Lib.hid (fun (W : World) (h : RZ W R g T n c (I + 1) E D 0 0) => (show Calls Tryd.prog 48 #[.pointer (some ⟨R, 0, none⟩), .string ⟨#[47]⟩] W (fun e w' => e = .returned (.bool true) ∧ ∃ j, w' = W.drewN j) from is_any W R g n c (I + 1) T E D 0 0 h [47] true (fun _ _ => hkk) (by rw [hmw]; simp [hI1])))
  have HIS92 := Lib.hid (fun (W : World) (h : RZ W R g T n c (I + 1) E D 0 0) => (show Calls Tryd.prog 48 #[.pointer (some ⟨R, 0, none⟩), .string ⟨#[92]⟩] W (fun e w' => e = .returned (.bool false) ∧ ∃ j, w' = W.drewN j) from is_any W R g n c (I + 1) T E D 0 0 h [92] false (fun _ _ => hkk) (by rw [hmw]; simp)))
  have HIS46 := Lib.hid (fun (W : World) (h : RZ W R g T n c (I + 1) E D 0 0) => (show Calls Tryd.prog 48 #[.pointer (some ⟨R, 0, none⟩), .string ⟨#[46]⟩] W (fun e w' => e = .returned (.bool false) ∧ ∃ j, w' = W.drewN j) from is_any W R g n c (I + 1) T E D 0 0 h [46] false (fun _ _ => hkk) (by rw [hmw]; simp)))
  have Z0 := Lib.hid (PZ.start h t.a)
  have HT := Lib.hid (fun (W : World) (hF : Fr (fun k => k = R) w W) => show W.cell? ⟨g, I * 4 + 2, none⟩ = some (.string (bs t.w)) from (World.cell?_of_block (a := ⟨g, I * 4 + 2, none⟩) (hF.block g hlg h.ne)).trans k2)
  have HMM := Lib.hid (And.intro hmw (And.intro hkk hI1))
  clear h hf ht k2 hmw hkk hI1
  go_enter Tryd.func83, Tryd.ntmps83
  go_wp2
  go_region
  obtain ⟨W1, hW1⟩ : ∃ W1, W1 = ((w.alloc (.cells #[.int .i64 0, .int .i64 0, .int .u8 0, .string ⟨#[]⟩, .slice none 0 0] 52)).alloc (.cells #[.int .i64 3, .int .i64 t.a, .int .u8 0, .string ⟨#[]⟩, .slice none 0 0] 52)).drew := ⟨_, rfl⟩
  rw [← hW1]
  have Z1 := Z0.out
  rw [← hW1] at Z1
  have HX1 := Lib.hid Z1
  have w0 := Z1.cells.x0
  have wf := Z1.cells.xf 0
  clear hW1 c0 c1 k1 Z0 Z1
  go_wp2
  obtain ⟨W3, hW3⟩ : ∃ W3, W3 = W1.setCell ⟨w.heap.size + 1, 0, none⟩ (.int .i64 4) := ⟨_, rfl⟩
  rw [← hW3]
  have Z1 : PZ w W3 R g T n c I E D 4 t.a 0 := by rw [hW3]; exact HX1.out.setX 0 (.int .i64 4) 4 0 rfl
  have HZ1 := Lib.hid Z1
  have cz := Z1.cells
  clear hW3 w0 wf HX1 Z1
  have u0 := fun j => (show (W3.drewN j).cell? ⟨R, 0, none⟩ = some (.slice (some ⟨g, 0, none⟩) n c) from cz.r0)
  have u1 := fun j => (show (W3.drewN j).cell? ⟨R, 1, none⟩ = some (.int .i64 I) from cz.r1)
  have u3 := fun j => (show (W3.drewN j).frozen? ⟨R, 1, none⟩ = false from cz.rf)
  have u2 := fun j => (show (W3.drewN j).cell? ⟨g, I * 4 + 2, none⟩ = some (.string (bs t.w)) from HT.out W3 HZ1.out.fr)
  clear cz
  go_wp2
  go_quiet (fail)
  go_wp2_with fail
  refine (HVb.out _).mono ?_
  rintro e w5 ⟨rfl, e5⟩
  have Z2 := Lib.hid (show PZ w w5 R g T n c (I + 1) E D 4 t.a 0 by rw [e5]; exact (HZ1.out.drewN nq).setI (I + 1) _ rfl)
  clear e5 u0 u1 u2 u3
  go_wp2_with fail
  refine (HIS47.out _ Z2.out.rz).mono ?_
  rintro e w6 ⟨rfl, j6, e6⟩
  have Z6 := Lib.hid (show PZ w w6 R g T n c (I + 1) E D 4 t.a 0 by rw [e6]; exact Z2.out.drewN j6)
  clear e6
  go_wp2_with fail
  refine (HIS46.out _ Z6.out.rz).mono ?_
  rintro e w7 ⟨rfl, j7, e7⟩
  have Z7 := Lib.hid (show PZ w w7 R g T n c (I + 1) E D 4 t.a 0 by rw [e7]; exact Z6.out.drewN j7)
  clear e7
  have x0 := Z7.out.cells.x0
  have xf0 := Z7.out.cells.xf 0
  go_wp2_with fail
  clear x0 xf0
  refine (HIS47.out _ (Z7.out.setX 0 (.int .i64 6) 6 0 rfl).rz).mono ?_
  rintro e w8 ⟨rfl, j8, e8⟩
  have Z8 := Lib.hid (show PZ w w8 R g T n c (I + 1) E D 6 t.a 0 by rw [e8]; exact (Z7.out.setX 0 (.int .i64 6) 6 0 rfl).drewN j8)
  clear e8
  have x0 := Z8.out.cells.x0
  have xf0 := Z8.out.cells.xf 0
  go_wp2_with fail
  clear x0 xf0
  refine (HVt.out _).mono ?_
  rintro e w9 ⟨rfl, e9⟩
  have Z9 := Lib.hid (show PZ w w9 R g T n c (I + 1) E D 5 t.a 0 by rw [e9]; exact (Z8.out.setX 0 (.int .i64 5) 5 0 rfl))
  clear e9
  obtain ⟨-, r1, rf, -⟩ := Z9.out.cells
  go_wp2_with fail
  have Z6 := Lib.hid ((Z9.out.setI (I + 2) ((I : Int) + 1 + 1) (by omega)).setI I I rfl)
  refine (no_any _ R g n c I T E D 0 0 43 Z6.out.rz).mono ?_
  rintro e w9 ⟨rfl, z9, f9⟩
  have hR := Z6.out.lt
  have a1 : ¬ R = w.heap.size + 1 := by omega
  have a2 : ¬ g = w.heap.size + 1 := by omega
  have a3 : ¬ R = w.heap.size := by omega
  have a4 : ¬ g = w.heap.size := by omega
  have it9 := (f9.block (w.heap.size + 1) (heap_lt Z6.out.it) (by omega)).trans Z6.out.it
  have re9 := (f9.block w.heap.size (heap_lt Z6.out.res) (by omega)).trans Z6.out.res
  have x0 : w9.cell? ⟨w.heap.size + 1, 0, none⟩ = some (.int .i64 5) := by rw [cell_of_row _ _ _ _ _ _ it9]; rfl
  have x1 : w9.cell? ⟨w.heap.size + 1, 1, none⟩ = some (.int .i64 t.a) := by rw [cell_of_row _ _ _ _ _ _ it9]; rfl
  have x2 : w9.cell? ⟨w.heap.size + 1, 2, none⟩ = some (.int .u8 0) := by rw [cell_of_row _ _ _ _ _ _ it9]; rfl
  have x3 : w9.cell? ⟨w.heap.size + 1, 3, none⟩ = some (.string ⟨#[]⟩) := by rw [cell_of_row _ _ _ _ _ _ it9]; rfl
  have x4 : w9.cell? ⟨w.heap.size + 1, 4, none⟩ = some (.slice none 0 0) := by rw [cell_of_row _ _ _ _ _ _ it9]; rfl
  have xf2 : w9.frozen? ⟨w.heap.size + 1, 2, none⟩ = false := frozen_of_row _ _ _ _ _ it9
  have y0 : w9.cell? ⟨w.heap.size, 0, none⟩ = some (.int .i64 0) := by rw [cell_of_row _ _ _ _ _ _ re9]; rfl
  have y1 : w9.cell? ⟨w.heap.size, 1, none⟩ = some (.int .i64 0) := by rw [cell_of_row _ _ _ _ _ _ re9]; rfl
  have y2 : w9.cell? ⟨w.heap.size, 2, none⟩ = some (.int .u8 0) := by rw [cell_of_row _ _ _ _ _ _ re9]; rfl
  have y3 : w9.cell? ⟨w.heap.size, 3, none⟩ = some (.string ⟨#[]⟩) := by rw [cell_of_row _ _ _ _ _ _ re9]; rfl
  have y4 : w9.cell? ⟨w.heap.size, 4, none⟩ = some (.slice none 0 0) := by rw [cell_of_row _ _ _ _ _ _ re9]; rfl
  have yf0 : w9.frozen? ⟨w.heap.size, 0, none⟩ = false := frozen_of_row _ _ _ _ _ re9
  have yf1 : w9.frozen? ⟨w.heap.size, 1, none⟩ = false := frozen_of_row _ _ _ _ _ re9
  have yf2 : w9.frozen? ⟨w.heap.size, 2, none⟩ = false := frozen_of_row _ _ _ _ _ re9
  have yf3 : w9.frozen? ⟨w.heap.size, 3, none⟩ = false := frozen_of_row _ _ _ _ _ re9
  have yf4 : w9.frozen? ⟨w.heap.size, 4, none⟩ = false := frozen_of_row _ _ _ _ _ re9
  rw [HP.out] at z9
  have F9 : Fr (fun k => k = R) w w9 := Z6.out.fr.trans f9
  have hfin := Lib.hid (And.intro ((((((z9.far a1 a2 2 (.int .u8 f)).far a3 a4 0 (.int .i64 5)).far a3 a4 1 (.int .i64 t.a)).far a3 a4 2 (.int .u8 f)).far a3 a4 3 (.string ⟨#[]⟩)).far a3 a4 4 (.slice none 0 0))
    ((((((F9.set (b := w.heap.size + 1) (.inr (by omega)) 2 (.int .u8 f)).set (b := w.heap.size) (.inr (Nat.le_refl _)) 0 (.int .i64 5)).set (b := w.heap.size) (.inr (Nat.le_refl _)) 1 (.int .i64 t.a)).set (b := w.heap.size) (.inr (Nat.le_refl _)) 2 (.int .u8 f)).set (b := w.heap.size) (.inr (Nat.le_refl _)) 3 (.string ⟨#[]⟩)).set (b := w.heap.size) (.inr (Nat.le_refl _)) 4 (.slice none 0 0)))
  clear it9 re9 z9 f9 F9 r1 rf
  go_wp2
  refine bodyPost_ret (v := phV 5 t.a f) (by unfold phV; simp [results, Tryd.results83, go_sem, y0, y1, y2, y3, y4]) rfl ⟨⟨_, _, _, rfl⟩, hfin.out⟩
set_option maxRecDepth 100000 in
set_option maxHeartbeats 1600000 in
theorem phrase_b47tg (w : World) (R g n c I : Nat) (T : List Tk) (E D : Int) (h : RZ w R g T n c I E D 0 0) (hlg : g < w.heap.size) (hI : I < n) (hn7 : n ≤ 1000000) (hI1 : I + 1 < n) (hmw : (T.getD (I + 1) default).w = [47]) (hkk : (T.getD (I + 1) default).k = 1 ∨ (T.getD (I + 1) default).k = 3) (f : Int) (hf : f = verbR (T.getD I default).w true) (hf0 : (f != 0) = true) (hf17 : decide (f ≤ 17) = false) :
    Calls Tryd.prog 83 #[.pointer (some ⟨R, 0, none⟩), .bool true] w fun e w' => (∃ x y z, e = .returned (phV x y z)) ∧ RZ w' R g T n c I E D (T.getD I default).a 43 ∧ Fr (fun k => k = R) w w' := by
  obtain ⟨t, ht⟩ : ∃ t, t = T.getD I default := ⟨_, rfl⟩
  have H := Lib.hid h
  obtain ⟨_, k1, k2, _⟩ := h.tok I hI
  obtain ⟨c0, c1, -⟩ := h.c0
  have hlt := h.lt
  have HP := Lib.hid (show placeR T I E = (T.getD I default).a by unfold placeR; rw [if_pos (by rw [h.hn]; exact hI)])
  rw [← ht] at k1 k2 hf HP ⊢
  have HK2 := Lib.hid k2
  have q1 := idxTo g n c I hI
  have HVb := Lib.hid (fun W => rverb_any t.w true W)
  have HVt := Lib.hid (fun W => rverb_any t.w true W)
  rw [← hf] at HVt
  rw [← hf] at HVb
  have HIS47 := Lib.hid (fun (W : World) (h : RZ W R g T n c (I + 1) E D 0 0) => (show Calls Tryd.prog 48 #[.pointer (some ⟨R, 0, none⟩), .string ⟨#[47]⟩] W (fun e w' => e = .returned (.bool true) ∧ ∃ j, w' = W.drewN j) from is_any W R g n c (I + 1) T E D 0 0 h [47] true (fun _ _ => hkk) (by rw [hmw]; simp [hI1])))
  have HIS92 := Lib.hid (fun (W : World) (h : RZ W R g T n c (I + 1) E D 0 0) => (show Calls Tryd.prog 48 #[.pointer (some ⟨R, 0, none⟩), .string ⟨#[92]⟩] W (fun e w' => e = .returned (.bool false) ∧ ∃ j, w' = W.drewN j) from is_any W R g n c (I + 1) T E D 0 0 h [92] false (fun _ _ => hkk) (by rw [hmw]; simp)))
  have HIS46 := Lib.hid (fun (W : World) (h : RZ W R g T n c (I + 1) E D 0 0) => (show Calls Tryd.prog 48 #[.pointer (some ⟨R, 0, none⟩), .string ⟨#[46]⟩] W (fun e w' => e = .returned (.bool false) ∧ ∃ j, w' = W.drewN j) from is_any W R g n c (I + 1) T E D 0 0 h [46] false (fun _ _ => hkk) (by rw [hmw]; simp)))
  have Z0 := Lib.hid (PZ.start h t.a)
  have HT := Lib.hid (fun (W : World) (hF : Fr (fun k => k = R) w W) => show W.cell? ⟨g, I * 4 + 2, none⟩ = some (.string (bs t.w)) from (World.cell?_of_block (a := ⟨g, I * 4 + 2, none⟩) (hF.block g hlg h.ne)).trans k2)
  have HMM := Lib.hid (And.intro hmw (And.intro hkk hI1))
  clear h hf ht k2 hmw hkk hI1
  go_enter Tryd.func83, Tryd.ntmps83
  go_wp2
  go_region
  obtain ⟨W1, hW1⟩ : ∃ W1, W1 = ((w.alloc (.cells #[.int .i64 0, .int .i64 0, .int .u8 0, .string ⟨#[]⟩, .slice none 0 0] 52)).alloc (.cells #[.int .i64 3, .int .i64 t.a, .int .u8 0, .string ⟨#[]⟩, .slice none 0 0] 52)).drew := ⟨_, rfl⟩
  rw [← hW1]
  have Z1 := Z0.out
  rw [← hW1] at Z1
  have HX1 := Lib.hid Z1
  have w0 := Z1.cells.x0
  have wf := Z1.cells.xf 0
  clear hW1 c0 c1 k1 Z0 Z1
  go_wp2
  obtain ⟨W3, hW3⟩ : ∃ W3, W3 = W1.setCell ⟨w.heap.size + 1, 0, none⟩ (.int .i64 4) := ⟨_, rfl⟩
  rw [← hW3]
  have Z1 : PZ w W3 R g T n c I E D 4 t.a 0 := by rw [hW3]; exact HX1.out.setX 0 (.int .i64 4) 4 0 rfl
  have HZ1 := Lib.hid Z1
  have cz := Z1.cells
  clear hW3 w0 wf HX1 Z1
  have u0 := fun j => (show (W3.drewN j).cell? ⟨R, 0, none⟩ = some (.slice (some ⟨g, 0, none⟩) n c) from cz.r0)
  have u1 := fun j => (show (W3.drewN j).cell? ⟨R, 1, none⟩ = some (.int .i64 I) from cz.r1)
  have u3 := fun j => (show (W3.drewN j).frozen? ⟨R, 1, none⟩ = false from cz.rf)
  have u2 := fun j => (show (W3.drewN j).cell? ⟨g, I * 4 + 2, none⟩ = some (.string (bs t.w)) from HT.out W3 HZ1.out.fr)
  clear cz
  go_wp2
  go_quiet (fail)
  go_wp2_with fail
  refine (HVb.out _).mono ?_
  rintro e w5 ⟨rfl, e5⟩
  have Z2 := Lib.hid (show PZ w w5 R g T n c (I + 1) E D 4 t.a 0 by rw [e5]; exact (HZ1.out.drewN nq).setI (I + 1) _ rfl)
  clear e5 u0 u1 u2 u3
  go_wp2_with fail
  refine (HIS47.out _ Z2.out.rz).mono ?_
  rintro e w6 ⟨rfl, j6, e6⟩
  have Z6 := Lib.hid (show PZ w w6 R g T n c (I + 1) E D 4 t.a 0 by rw [e6]; exact Z2.out.drewN j6)
  clear e6
  go_wp2_with fail
  refine (HIS46.out _ Z6.out.rz).mono ?_
  rintro e w7 ⟨rfl, j7, e7⟩
  have Z7 := Lib.hid (show PZ w w7 R g T n c (I + 1) E D 4 t.a 0 by rw [e7]; exact Z6.out.drewN j7)
  clear e7
  have x0 := Z7.out.cells.x0
  have xf0 := Z7.out.cells.xf 0
  go_wp2_with fail
  clear x0 xf0
  refine (HIS47.out _ (Z7.out.setX 0 (.int .i64 6) 6 0 rfl).rz).mono ?_
  rintro e w8 ⟨rfl, j8, e8⟩
  have Z8 := Lib.hid (show PZ w w8 R g T n c (I + 1) E D 6 t.a 0 by rw [e8]; exact (Z7.out.setX 0 (.int .i64 6) 6 0 rfl).drewN j8)
  clear e8
  have x0 := Z8.out.cells.x0
  have xf0 := Z8.out.cells.xf 0
  go_wp2_with fail
  clear x0 xf0
  refine (HVt.out _).mono ?_
  rintro e w9 ⟨rfl, e9⟩
  have Z9 := Lib.hid (show PZ w w9 R g T n c (I + 1) E D 5 t.a 0 by rw [e9]; exact (Z8.out.setX 0 (.int .i64 5) 5 0 rfl))
  clear e9
  obtain ⟨-, r1, rf, -⟩ := Z9.out.cells
  go_wp2_with fail
  have Z6 := Lib.hid ((Z9.out.setI (I + 2) ((I : Int) + 1 + 1) (by omega)).setI I I rfl)
  refine (no_any _ R g n c I T E D 0 0 43 Z6.out.rz).mono ?_
  rintro e w9 ⟨rfl, z9, f9⟩
  have hR := Z6.out.lt
  have a1 : ¬ R = w.heap.size + 1 := by omega
  have a2 : ¬ g = w.heap.size + 1 := by omega
  have a3 : ¬ R = w.heap.size := by omega
  have a4 : ¬ g = w.heap.size := by omega
  have it9 := (f9.block (w.heap.size + 1) (heap_lt Z6.out.it) (by omega)).trans Z6.out.it
  have re9 := (f9.block w.heap.size (heap_lt Z6.out.res) (by omega)).trans Z6.out.res
  have x0 : w9.cell? ⟨w.heap.size + 1, 0, none⟩ = some (.int .i64 5) := by rw [cell_of_row _ _ _ _ _ _ it9]; rfl
  have x1 : w9.cell? ⟨w.heap.size + 1, 1, none⟩ = some (.int .i64 t.a) := by rw [cell_of_row _ _ _ _ _ _ it9]; rfl
  have x2 : w9.cell? ⟨w.heap.size + 1, 2, none⟩ = some (.int .u8 0) := by rw [cell_of_row _ _ _ _ _ _ it9]; rfl
  have x3 : w9.cell? ⟨w.heap.size + 1, 3, none⟩ = some (.string ⟨#[]⟩) := by rw [cell_of_row _ _ _ _ _ _ it9]; rfl
  have x4 : w9.cell? ⟨w.heap.size + 1, 4, none⟩ = some (.slice none 0 0) := by rw [cell_of_row _ _ _ _ _ _ it9]; rfl
  have xf2 : w9.frozen? ⟨w.heap.size + 1, 2, none⟩ = false := frozen_of_row _ _ _ _ _ it9
  have y0 : w9.cell? ⟨w.heap.size, 0, none⟩ = some (.int .i64 0) := by rw [cell_of_row _ _ _ _ _ _ re9]; rfl
  have y1 : w9.cell? ⟨w.heap.size, 1, none⟩ = some (.int .i64 0) := by rw [cell_of_row _ _ _ _ _ _ re9]; rfl
  have y2 : w9.cell? ⟨w.heap.size, 2, none⟩ = some (.int .u8 0) := by rw [cell_of_row _ _ _ _ _ _ re9]; rfl
  have y3 : w9.cell? ⟨w.heap.size, 3, none⟩ = some (.string ⟨#[]⟩) := by rw [cell_of_row _ _ _ _ _ _ re9]; rfl
  have y4 : w9.cell? ⟨w.heap.size, 4, none⟩ = some (.slice none 0 0) := by rw [cell_of_row _ _ _ _ _ _ re9]; rfl
  have yf0 : w9.frozen? ⟨w.heap.size, 0, none⟩ = false := frozen_of_row _ _ _ _ _ re9
  have yf1 : w9.frozen? ⟨w.heap.size, 1, none⟩ = false := frozen_of_row _ _ _ _ _ re9
  have yf2 : w9.frozen? ⟨w.heap.size, 2, none⟩ = false := frozen_of_row _ _ _ _ _ re9
  have yf3 : w9.frozen? ⟨w.heap.size, 3, none⟩ = false := frozen_of_row _ _ _ _ _ re9
  have yf4 : w9.frozen? ⟨w.heap.size, 4, none⟩ = false := frozen_of_row _ _ _ _ _ re9
  rw [HP.out] at z9
  have F9 : Fr (fun k => k = R) w w9 := Z6.out.fr.trans f9
  have hfin := Lib.hid (And.intro ((((((z9.far a1 a2 2 (.int .u8 f)).far a3 a4 0 (.int .i64 5)).far a3 a4 1 (.int .i64 t.a)).far a3 a4 2 (.int .u8 f)).far a3 a4 3 (.string ⟨#[]⟩)).far a3 a4 4 (.slice none 0 0))
    ((((((F9.set (b := w.heap.size + 1) (.inr (by omega)) 2 (.int .u8 f)).set (b := w.heap.size) (.inr (Nat.le_refl _)) 0 (.int .i64 5)).set (b := w.heap.size) (.inr (Nat.le_refl _)) 1 (.int .i64 t.a)).set (b := w.heap.size) (.inr (Nat.le_refl _)) 2 (.int .u8 f)).set (b := w.heap.size) (.inr (Nat.le_refl _)) 3 (.string ⟨#[]⟩)).set (b := w.heap.size) (.inr (Nat.le_refl _)) 4 (.slice none 0 0)))
  clear it9 re9 z9 f9 F9 r1 rf
  go_wp2
  refine bodyPost_ret (v := phV 5 t.a f) (by unfold phV; simp [results, Tryd.results83, go_sem, y0, y1, y2, y3, y4]) rfl ⟨⟨_, _, _, rfl⟩, hfin.out⟩
set_option maxRecDepth 100000 in
set_option maxHeartbeats 1600000 in
theorem phrase_b47tl (w : World) (R g n c I : Nat) (T : List Tk) (E D : Int) (h : RZ w R g T n c I E D 0 0) (hlg : g < w.heap.size) (hI : I < n) (hn7 : n ≤ 1000000) (hI1 : I + 1 < n) (hmw : (T.getD (I + 1) default).w = [47]) (hkk : (T.getD (I + 1) default).k = 1 ∨ (T.getD (I + 1) default).k = 3) (f : Int) (hf : f = verbR (T.getD I default).w true) (hf0 : (f != 0) = true) (hf17 : decide (f ≤ 17) = true) :
    Calls Tryd.prog 83 #[.pointer (some ⟨R, 0, none⟩), .bool true] w fun e w' => (∃ x y z, e = .returned (phV x y z)) ∧ RZ w' R g T n c I E D (T.getD I default).a 43 ∧ Fr (fun k => k = R) w w' := by
  obtain ⟨t, ht⟩ : ∃ t, t = T.getD I default := ⟨_, rfl⟩
  have H := Lib.hid h
  obtain ⟨_, k1, k2, _⟩ := h.tok I hI
  obtain ⟨c0, c1, -⟩ := h.c0
  have hlt := h.lt
  have HP := Lib.hid (show placeR T I E = (T.getD I default).a by unfold placeR; rw [if_pos (by rw [h.hn]; exact hI)])
  rw [← ht] at k1 k2 hf HP ⊢
  have HK2 := Lib.hid k2
  have q1 := idxTo g n c I hI
  have HVb := Lib.hid (fun W => rverb_any t.w true W)
  have HVt := Lib.hid (fun W => rverb_any t.w true W)
  rw [← hf] at HVt
  rw [← hf] at HVb
  have HIS47 := Lib.hid (fun (W : World) (h : RZ W R g T n c (I + 1) E D 0 0) => (show Calls Tryd.prog 48 #[.pointer (some ⟨R, 0, none⟩), .string ⟨#[47]⟩] W (fun e w' => e = .returned (.bool true) ∧ ∃ j, w' = W.drewN j) from is_any W R g n c (I + 1) T E D 0 0 h [47] true (fun _ _ => hkk) (by rw [hmw]; simp [hI1])))
  have HIS92 := Lib.hid (fun (W : World) (h : RZ W R g T n c (I + 1) E D 0 0) => (show Calls Tryd.prog 48 #[.pointer (some ⟨R, 0, none⟩), .string ⟨#[92]⟩] W (fun e w' => e = .returned (.bool false) ∧ ∃ j, w' = W.drewN j) from is_any W R g n c (I + 1) T E D 0 0 h [92] false (fun _ _ => hkk) (by rw [hmw]; simp)))
  have HIS46 := Lib.hid (fun (W : World) (h : RZ W R g T n c (I + 1) E D 0 0) => (show Calls Tryd.prog 48 #[.pointer (some ⟨R, 0, none⟩), .string ⟨#[46]⟩] W (fun e w' => e = .returned (.bool false) ∧ ∃ j, w' = W.drewN j) from is_any W R g n c (I + 1) T E D 0 0 h [46] false (fun _ _ => hkk) (by rw [hmw]; simp)))
  have Z0 := Lib.hid (PZ.start h t.a)
  have HT := Lib.hid (fun (W : World) (hF : Fr (fun k => k = R) w W) => show W.cell? ⟨g, I * 4 + 2, none⟩ = some (.string (bs t.w)) from (World.cell?_of_block (a := ⟨g, I * 4 + 2, none⟩) (hF.block g hlg h.ne)).trans k2)
  have HMM := Lib.hid (And.intro hmw (And.intro hkk hI1))
  clear h hf ht k2 hmw hkk hI1
  go_enter Tryd.func83, Tryd.ntmps83
  go_wp2
  go_region
  obtain ⟨W1, hW1⟩ : ∃ W1, W1 = ((w.alloc (.cells #[.int .i64 0, .int .i64 0, .int .u8 0, .string ⟨#[]⟩, .slice none 0 0] 52)).alloc (.cells #[.int .i64 3, .int .i64 t.a, .int .u8 0, .string ⟨#[]⟩, .slice none 0 0] 52)).drew := ⟨_, rfl⟩
  rw [← hW1]
  have Z1 := Z0.out
  rw [← hW1] at Z1
  have HX1 := Lib.hid Z1
  have w0 := Z1.cells.x0
  have wf := Z1.cells.xf 0
  clear hW1 c0 c1 k1 Z0 Z1
  go_wp2
  obtain ⟨W3, hW3⟩ : ∃ W3, W3 = W1.setCell ⟨w.heap.size + 1, 0, none⟩ (.int .i64 4) := ⟨_, rfl⟩
  rw [← hW3]
  have Z1 : PZ w W3 R g T n c I E D 4 t.a 0 := by rw [hW3]; exact HX1.out.setX 0 (.int .i64 4) 4 0 rfl
  have HZ1 := Lib.hid Z1
  have cz := Z1.cells
  clear hW3 w0 wf HX1 Z1
  have u0 := fun j => (show (W3.drewN j).cell? ⟨R, 0, none⟩ = some (.slice (some ⟨g, 0, none⟩) n c) from cz.r0)
  have u1 := fun j => (show (W3.drewN j).cell? ⟨R, 1, none⟩ = some (.int .i64 I) from cz.r1)
  have u3 := fun j => (show (W3.drewN j).frozen? ⟨R, 1, none⟩ = false from cz.rf)
  have u2 := fun j => (show (W3.drewN j).cell? ⟨g, I * 4 + 2, none⟩ = some (.string (bs t.w)) from HT.out W3 HZ1.out.fr)
  clear cz
  go_wp2
  go_quiet (fail)
  go_wp2_with fail
  refine (HVb.out _).mono ?_
  rintro e w5 ⟨rfl, e5⟩
  have Z2 := Lib.hid (show PZ w w5 R g T n c (I + 1) E D 4 t.a 0 by rw [e5]; exact (HZ1.out.drewN nq).setI (I + 1) _ rfl)
  clear e5 u0 u1 u2 u3
  go_wp2_with fail
  refine (HIS47.out _ Z2.out.rz).mono ?_
  rintro e w6 ⟨rfl, j6, e6⟩
  have Z6 := Lib.hid (show PZ w w6 R g T n c (I + 1) E D 4 t.a 0 by rw [e6]; exact Z2.out.drewN j6)
  clear e6
  go_wp2_with fail
  refine (HIS46.out _ Z6.out.rz).mono ?_
  rintro e w7 ⟨rfl, j7, e7⟩
  have Z7 := Lib.hid (show PZ w w7 R g T n c (I + 1) E D 4 t.a 0 by rw [e7]; exact Z6.out.drewN j7)
  clear e7
  have x0 := Z7.out.cells.x0
  have xf0 := Z7.out.cells.xf 0
  go_wp2_with fail
  clear x0 xf0
  refine (HIS47.out _ (Z7.out.setX 0 (.int .i64 6) 6 0 rfl).rz).mono ?_
  rintro e w8 ⟨rfl, j8, e8⟩
  have Z8 := Lib.hid (show PZ w w8 R g T n c (I + 1) E D 6 t.a 0 by rw [e8]; exact (Z7.out.setX 0 (.int .i64 6) 6 0 rfl).drewN j8)
  clear e8
  have x0 := Z8.out.cells.x0
  have xf0 := Z8.out.cells.xf 0
  go_wp2_with fail
  clear x0 xf0
  refine (HVt.out _).mono ?_
  rintro e w9 ⟨rfl, e9⟩
  have Z9 := Lib.hid (show PZ w w9 R g T n c (I + 1) E D 5 t.a 0 by rw [e9]; exact (Z8.out.setX 0 (.int .i64 5) 5 0 rfl))
  clear e9
  obtain ⟨-, r1, rf, -⟩ := Z9.out.cells
  go_wp2_with fail
  have Z6 := Lib.hid ((Z9.out.setI (I + 2) ((I : Int) + 1 + 1) (by omega)).setI I I rfl)
  refine (no_any _ R g n c I T E D 0 0 43 Z6.out.rz).mono ?_
  rintro e w9 ⟨rfl, z9, f9⟩
  have hR := Z6.out.lt
  have a1 : ¬ R = w.heap.size + 1 := by omega
  have a2 : ¬ g = w.heap.size + 1 := by omega
  have a3 : ¬ R = w.heap.size := by omega
  have a4 : ¬ g = w.heap.size := by omega
  have it9 := (f9.block (w.heap.size + 1) (heap_lt Z6.out.it) (by omega)).trans Z6.out.it
  have re9 := (f9.block w.heap.size (heap_lt Z6.out.res) (by omega)).trans Z6.out.res
  have x0 : w9.cell? ⟨w.heap.size + 1, 0, none⟩ = some (.int .i64 5) := by rw [cell_of_row _ _ _ _ _ _ it9]; rfl
  have x1 : w9.cell? ⟨w.heap.size + 1, 1, none⟩ = some (.int .i64 t.a) := by rw [cell_of_row _ _ _ _ _ _ it9]; rfl
  have x2 : w9.cell? ⟨w.heap.size + 1, 2, none⟩ = some (.int .u8 0) := by rw [cell_of_row _ _ _ _ _ _ it9]; rfl
  have x3 : w9.cell? ⟨w.heap.size + 1, 3, none⟩ = some (.string ⟨#[]⟩) := by rw [cell_of_row _ _ _ _ _ _ it9]; rfl
  have x4 : w9.cell? ⟨w.heap.size + 1, 4, none⟩ = some (.slice none 0 0) := by rw [cell_of_row _ _ _ _ _ _ it9]; rfl
  have xf2 : w9.frozen? ⟨w.heap.size + 1, 2, none⟩ = false := frozen_of_row _ _ _ _ _ it9
  have y0 : w9.cell? ⟨w.heap.size, 0, none⟩ = some (.int .i64 0) := by rw [cell_of_row _ _ _ _ _ _ re9]; rfl
  have y1 : w9.cell? ⟨w.heap.size, 1, none⟩ = some (.int .i64 0) := by rw [cell_of_row _ _ _ _ _ _ re9]; rfl
  have y2 : w9.cell? ⟨w.heap.size, 2, none⟩ = some (.int .u8 0) := by rw [cell_of_row _ _ _ _ _ _ re9]; rfl
  have y3 : w9.cell? ⟨w.heap.size, 3, none⟩ = some (.string ⟨#[]⟩) := by rw [cell_of_row _ _ _ _ _ _ re9]; rfl
  have y4 : w9.cell? ⟨w.heap.size, 4, none⟩ = some (.slice none 0 0) := by rw [cell_of_row _ _ _ _ _ _ re9]; rfl
  have yf0 : w9.frozen? ⟨w.heap.size, 0, none⟩ = false := frozen_of_row _ _ _ _ _ re9
  have yf1 : w9.frozen? ⟨w.heap.size, 1, none⟩ = false := frozen_of_row _ _ _ _ _ re9
  have yf2 : w9.frozen? ⟨w.heap.size, 2, none⟩ = false := frozen_of_row _ _ _ _ _ re9
  have yf3 : w9.frozen? ⟨w.heap.size, 3, none⟩ = false := frozen_of_row _ _ _ _ _ re9
  have yf4 : w9.frozen? ⟨w.heap.size, 4, none⟩ = false := frozen_of_row _ _ _ _ _ re9
  rw [HP.out] at z9
  have F9 : Fr (fun k => k = R) w w9 := Z6.out.fr.trans f9
  have hfin := Lib.hid (And.intro ((((((z9.far a1 a2 2 (.int .u8 f)).far a3 a4 0 (.int .i64 5)).far a3 a4 1 (.int .i64 t.a)).far a3 a4 2 (.int .u8 f)).far a3 a4 3 (.string ⟨#[]⟩)).far a3 a4 4 (.slice none 0 0))
    ((((((F9.set (b := w.heap.size + 1) (.inr (by omega)) 2 (.int .u8 f)).set (b := w.heap.size) (.inr (Nat.le_refl _)) 0 (.int .i64 5)).set (b := w.heap.size) (.inr (Nat.le_refl _)) 1 (.int .i64 t.a)).set (b := w.heap.size) (.inr (Nat.le_refl _)) 2 (.int .u8 f)).set (b := w.heap.size) (.inr (Nat.le_refl _)) 3 (.string ⟨#[]⟩)).set (b := w.heap.size) (.inr (Nat.le_refl _)) 4 (.slice none 0 0)))
  clear it9 re9 z9 f9 F9 r1 rf
  go_wp2
  refine bodyPost_ret (v := phV 5 t.a f) (by unfold phV; simp [results, Tryd.results83, go_sem, y0, y1, y2, y3, y4]) rfl ⟨⟨_, _, _, rfl⟩, hfin.out⟩
end Go.Proofs.YthdognmppbckbaaDoor
