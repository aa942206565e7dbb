/- The document's operand: its cases but numbers. Written by gen_zd.py. -/
import Derived.Test.YthdognmppbckbaaDoorZPq
namespace Go.Proofs.YthdognmppbckbaaDoor
open Go.RowKit
set_option linter.unusedVariables false
set_option maxRecDepth 100000 in
set_option maxHeartbeats 1600000 in
theorem opd_g0 (w : World) (R g n c I : Nat) (T : List Tk) (E : Int) (d : Nat) (h : RZ w R g T n c I E d 0 0) (hlg : g < w.heap.size) (hn7 : n ≤ 1000000) (hT : LT T) (hId : I + d ≤ n + 32) (hIn : I ≤ n) (hI : I = n) : Calls Tryd.prog 84 #[.pointer (some ⟨R, 0, none⟩)] w (ExAns w R g T n c I E d (.err E 42)) := by
  have hRl := h.lt
  have Z0 := Lib.hid h
  have F0 := Lib.hid (Fr.refl (fun k => k = R) w)
  have HB := Lib.hid (And.intro hlg (And.intro hId (And.intro hIn h.hn)))
  have HI40 := Lib.hid (fun (W : World) (hW : RZ W R g T n c I E d 0 0) => (show Calls Tryd.prog 48 #[.pointer (some ⟨R, 0, none⟩), .string ⟨#[40]⟩] W (fun e w' => e = .returned (.bool false) ∧ ∃ j, w' = W.drewN j) from is_any W R g n c I T E d 0 0 hW [40] false (fun a b => hT.kw _ (getD_mem (by rw [h.hn]; exact a)) (by rw [b]; decide)) (by symm; exact decide_eq_false (fun a => by omega))))
  have HI1 := Lib.hid (fun (W : World) (hW : RZ W R g T n c I E d 0 0) => (show Calls Tryd.prog 48 #[.pointer (some ⟨R, 0, none⟩), .string ⟨#[105, 110]⟩] W (fun e w' => e = .returned (.bool false) ∧ ∃ j, w' = W.drewN j) from is_any W R g n c I T E d 0 0 hW [105, 110] false (fun a b => hT.kw _ (getD_mem (by rw [h.hn]; exact a)) (by rw [b]; decide)) (by symm; exact decide_eq_false (fun a => by omega))))
  have HI2 := Lib.hid (fun (W : World) (hW : RZ W R g T n c I E d 0 0) => (show Calls Tryd.prog 48 #[.pointer (some ⟨R, 0, none⟩), .string ⟨#[111, 117, 116]⟩] W (fun e w' => e = .returned (.bool false) ∧ ∃ j, w' = W.drewN j) from is_any W R g n c I T E d 0 0 hW [111, 117, 116] false (fun a b => hT.kw _ (getD_mem (by rw [h.hn]; exact a)) (by rw [b]; decide)) (by symm; exact decide_eq_false (fun a => by omega))))
  obtain ⟨pa, hpa⟩ : ∃ pa, pa = E := ⟨_, rfl⟩
  have HPL := Lib.hid (show placeR T I E = pa by rw [hpa]; unfold placeR; rw [if_neg (by rw [h.hn]; omega)])
  have hd : decide ((I : Int) < (n : Int)) = false := by simp; omega
  have hlt : ¬ I < n := by omega
  clear h hlg hId hIn hT hI
  go_enter Tryd.func84, Tryd.ntmps84
  go_wp2_with fail
  refine (HI40.out _ Z0.out).mono ?_
  rintro e w1 ⟨rfl, j1, e1⟩
  have Z1 := Lib.hid (show RZ w1 R g T n c I E d 0 0 by rw [e1]; exact Z0.out.keep (below_drewN (Below.refl _ _) (Nat.le_refl _)))
  have F1 := Lib.hid (show Fr (fun k => k = R) w w1 by rw [e1]; exact F0.out.drewN _)
  clear e1
  obtain ⟨c0, c1, -, -, -, -⟩ := Z1.out.c0
  have u0 := fun j => (show (w1.drewN j).cell? ⟨R, 0, none⟩ = some (.slice (some ⟨g, 0, none⟩) n c) from c0)
  have u1 := fun j => (show (w1.drewN j).cell? ⟨R, 1, none⟩ = some (.int .i64 I) from c1)
  clear c0 c1
  go_wp2
  go_quiet (fail)
  clear u0 u1
  obtain ⟨w2, hw2⟩ : ∃ w2, w2 = w1.drewN nq := ⟨_, rfl⟩
  rw [← hw2]
  have Z2 := Lib.hid (show RZ w2 R g T n c I E d 0 0 by rw [hw2]; exact Z1.out.keep (below_drewN (Below.refl _ _) (Nat.le_refl _)))
  have F2 := Lib.hid (show Fr (fun k => k = R) w w2 by rw [hw2]; exact F1.out.drewN _)
  clear hw2
  obtain ⟨c0, c1, -, -, -, -⟩ := Z2.out.c0
  have u0 := fun j => (show (w2.drewN j).cell? ⟨R, 0, none⟩ = some (.slice (some ⟨g, 0, none⟩) n c) from c0)
  have u1 := fun j => (show (w2.drewN j).cell? ⟨R, 1, none⟩ = some (.int .i64 I) from c1)
  clear c0 c1
  go_wp2
  go_quiet (fail)
  clear u0 u1
  obtain ⟨w3, hw3⟩ : ∃ w3, w3 = w2.drewN nq := ⟨_, rfl⟩
  rw [← hw3]
  have Z3 := Lib.hid (show RZ w3 R g T n c I E d 0 0 by rw [hw3]; exact Z2.out.keep (below_drewN (Below.refl _ _) (Nat.le_refl _)))
  have F3 := Lib.hid (show Fr (fun k => k = R) w w3 by rw [hw3]; exact F2.out.drewN _)
  clear hw3
  go_wp2_with fail
  refine (HI1.out _ Z3.out).mono ?_
  rintro e w4 ⟨rfl, j4, e4⟩
  have Z4 := Lib.hid (show RZ w4 R g T n c I E d 0 0 by rw [e4]; exact Z3.out.keep (below_drewN (Below.refl _ _) (Nat.le_refl _)))
  have F4 := Lib.hid (show Fr (fun k => k = R) w w4 by rw [e4]; exact F3.out.drewN _)
  clear e4
  go_wp2_with fail
  refine (HI2.out _ Z4.out).mono ?_
  rintro e w5 ⟨rfl, j5, e5⟩
  have Z5 := Lib.hid (show RZ w5 R g T n c I E d 0 0 by rw [e5]; exact Z4.out.keep (below_drewN (Below.refl _ _) (Nat.le_refl _)))
  have F5 := Lib.hid (show Fr (fun k => k = R) w w5 by rw [e5]; exact F4.out.drewN _)
  clear e5
  go_wp2_with fail
  refine (no_any _ R g n c I T E d 0 0 42 Z5.out).mono ?_
  rintro e w9 ⟨rfl, z9, f9⟩
  rw [HPL.out] at z9
  have Z9 := Lib.hid z9
  have F9 := Lib.hid (F5.out.trans f9)
  clear z9 f9
  go_wp2
  refine bodyPost_ret (v := .slice none 0 0) (by simp [results, Tryd.results84, go_sem]) rfl ?_
  subst hpa
  exact ⟨none, 0, 0, [], rfl, OI.nil _ _, F9.out, Nat.zero_le _, I, pa, 42, Z9.out, HB.out.2.1, rfl, rfl, rfl⟩
set_option maxRecDepth 100000 in
set_option maxHeartbeats 1600000 in
theorem opd_g1 (w : World) (R g n c I : Nat) (T : List Tk) (E : Int) (d : Nat) (h : RZ w R g T n c I E d 0 0) (hlg : g < w.heap.size) (hn7 : n ≤ 1000000) (hT : LT T) (hId : I + d ≤ n + 32) (hIn : I ≤ n) (hI : I < n) (hk : (T.getD I default).k = 3) (hw : ¬ (T.getD I default).w = [40]) (hw1 : ¬ (T.getD I default).w = [105, 110]) (hw2 : ¬ (T.getD I default).w = [111, 117, 116]) : Calls Tryd.prog 84 #[.pointer (some ⟨R, 0, none⟩)] w (ExAns w R g T n c I E d (.err (T.getD I default).a 42)) := by
  have hRl := h.lt
  have Z0 := Lib.hid h
  have F0 := Lib.hid (Fr.refl (fun k => k = R) w)
  have HB := Lib.hid (And.intro hlg (And.intro hId (And.intro hIn h.hn)))
  have HI40 := Lib.hid (fun (W : World) (hW : RZ W R g T n c I E d 0 0) => (show Calls Tryd.prog 48 #[.pointer (some ⟨R, 0, none⟩), .string ⟨#[40]⟩] W (fun e w' => e = .returned (.bool false) ∧ ∃ j, w' = W.drewN j) from is_any W R g n c I T E d 0 0 hW [40] false (fun a b => hT.kw _ (getD_mem (by rw [h.hn]; exact a)) (by rw [b]; decide)) (by symm; exact decide_eq_false (fun a => hw a.2))))
  have HI1 := Lib.hid (fun (W : World) (hW : RZ W R g T n c I E d 0 0) => (show Calls Tryd.prog 48 #[.pointer (some ⟨R, 0, none⟩), .string ⟨#[105, 110]⟩] W (fun e w' => e = .returned (.bool false) ∧ ∃ j, w' = W.drewN j) from is_any W R g n c I T E d 0 0 hW [105, 110] false (fun a b => hT.kw _ (getD_mem (by rw [h.hn]; exact a)) (by rw [b]; decide)) (by symm; exact decide_eq_false (fun a => hw1 a.2))))
  have HI2 := Lib.hid (fun (W : World) (hW : RZ W R g T n c I E d 0 0) => (show Calls Tryd.prog 48 #[.pointer (some ⟨R, 0, none⟩), .string ⟨#[111, 117, 116]⟩] W (fun e w' => e = .returned (.bool false) ∧ ∃ j, w' = W.drewN j) from is_any W R g n c I T E d 0 0 hW [111, 117, 116] false (fun a b => hT.kw _ (getD_mem (by rw [h.hn]; exact a)) (by rw [b]; decide)) (by symm; exact decide_eq_false (fun a => hw2 a.2))))
  obtain ⟨t, ht⟩ : ∃ t, t = T.getD I default := ⟨_, rfl⟩
  rw [← ht] at hk hw hw1 hw2 ⊢
  obtain ⟨pa, hpa⟩ : ∃ pa, pa = t.a := ⟨_, rfl⟩
  rw [← hpa]
  have HPL := Lib.hid (show placeR T I E = pa by rw [hpa, ht]; unfold placeR; rw [if_pos (by rw [h.hn]; omega)])
  have HTT := Lib.hid ht
  have hd : decide ((I : Int) < (n : Int)) = true := by simp; omega
  have hk2 : (t.k == 2) = false := by rw [hk]; rfl
  have hk1 : (t.k == 1) = false := by rw [hk]; rfl
  have q1 := idxTo g n c I hI
  clear h hlg hId hIn hT hk hw hw1 hw2 ht hpa
  go_enter Tryd.func84, Tryd.ntmps84
  go_wp2_with fail
  refine (HI40.out _ Z0.out).mono ?_
  rintro e w1 ⟨rfl, j1, e1⟩
  have Z1 := Lib.hid (show RZ w1 R g T n c I E d 0 0 by rw [e1]; exact Z0.out.keep (below_drewN (Below.refl _ _) (Nat.le_refl _)))
  have F1 := Lib.hid (show Fr (fun k => k = R) w w1 by rw [e1]; exact F0.out.drewN _)
  clear e1
  obtain ⟨c0, c1, -, -, -, -⟩ := Z1.out.c0
  have u0 := fun j => (show (w1.drewN j).cell? ⟨R, 0, none⟩ = some (.slice (some ⟨g, 0, none⟩) n c) from c0)
  have u1 := fun j => (show (w1.drewN j).cell? ⟨R, 1, none⟩ = some (.int .i64 I) from c1)
  obtain ⟨k0, k1, k2, -⟩ := Z1.out.tok I hI
  rw [← HTT.out] at k0 k1 k2
  have v0 := fun j => (show (w1.drewN j).cell? ⟨g, I * 4, none⟩ = some (.int .i64 t.k) from k0)
  have v1 := fun j => (show (w1.drewN j).cell? ⟨g, I * 4 + 1, none⟩ = some (.int .i64 t.a) from k1)
  have v2 := fun j => (show (w1.drewN j).cell? ⟨g, I * 4 + 2, none⟩ = some (.string (bs t.w)) from k2)
  clear c0 c1 k0 k1 k2
  go_wp2
  go_quiet (fail)
  clear u0 u1 v0 v1 v2
  obtain ⟨w2, hw2⟩ : ∃ w2, w2 = w1.drewN nq := ⟨_, rfl⟩
  rw [← hw2]
  have Z2 := Lib.hid (show RZ w2 R g T n c I E d 0 0 by rw [hw2]; exact Z1.out.keep (below_drewN (Below.refl _ _) (Nat.le_refl _)))
  have F2 := Lib.hid (show Fr (fun k => k = R) w w2 by rw [hw2]; exact F1.out.drewN _)
  clear hw2
  obtain ⟨c0, c1, -, -, -, -⟩ := Z2.out.c0
  have u0 := fun j => (show (w2.drewN j).cell? ⟨R, 0, none⟩ = some (.slice (some ⟨g, 0, none⟩) n c) from c0)
  have u1 := fun j => (show (w2.drewN j).cell? ⟨R, 1, none⟩ = some (.int .i64 I) from c1)
  obtain ⟨k0, k1, k2, -⟩ := Z2.out.tok I hI
  rw [← HTT.out] at k0 k1 k2
  have v0 := fun j => (show (w2.drewN j).cell? ⟨g, I * 4, none⟩ = some (.int .i64 t.k) from k0)
  have v1 := fun j => (show (w2.drewN j).cell? ⟨g, I * 4 + 1, none⟩ = some (.int .i64 t.a) from k1)
  have v2 := fun j => (show (w2.drewN j).cell? ⟨g, I * 4 + 2, none⟩ = some (.string (bs t.w)) from k2)
  clear c0 c1 k0 k1 k2
  go_wp2
  go_quiet (fail)
  clear u0 u1 v0 v1 v2
  obtain ⟨w3, hw3⟩ : ∃ w3, w3 = w2.drewN nq := ⟨_, rfl⟩
  rw [← hw3]
  have Z3 := Lib.hid (show RZ w3 R g T n c I E d 0 0 by rw [hw3]; exact Z2.out.keep (below_drewN (Below.refl _ _) (Nat.le_refl _)))
  have F3 := Lib.hid (show Fr (fun k => k = R) w w3 by rw [hw3]; exact F2.out.drewN _)
  clear hw3
  go_wp2_with fail
  refine (HI1.out _ Z3.out).mono ?_
  rintro e w4 ⟨rfl, j4, e4⟩
  have Z4 := Lib.hid (show RZ w4 R g T n c I E d 0 0 by rw [e4]; exact Z3.out.keep (below_drewN (Below.refl _ _) (Nat.le_refl _)))
  have F4 := Lib.hid (show Fr (fun k => k = R) w w4 by rw [e4]; exact F3.out.drewN _)
  clear e4
  go_wp2_with fail
  refine (HI2.out _ Z4.out).mono ?_
  rintro e w5 ⟨rfl, j5, e5⟩
  have Z5 := Lib.hid (show RZ w5 R g T n c I E d 0 0 by rw [e5]; exact Z4.out.keep (below_drewN (Below.refl _ _) (Nat.le_refl _)))
  have F5 := Lib.hid (show Fr (fun k => k = R) w w5 by rw [e5]; exact F4.out.drewN _)
  clear e5
  go_wp2_with fail
  refine (no_any _ R g n c I T E d 0 0 42 Z5.out).mono ?_
  rintro e w9 ⟨rfl, z9, f9⟩
  rw [HPL.out] at z9
  have Z9 := Lib.hid z9
  have F9 := Lib.hid (F5.out.trans f9)
  clear z9 f9
  go_wp2
  refine bodyPost_ret (v := .slice none 0 0) (by simp [results, Tryd.results84, go_sem]) rfl ?_
  exact ⟨none, 0, 0, [], rfl, OI.nil _ _, F9.out, Nat.zero_le _, I, pa, 42, Z9.out, HB.out.2.1, rfl, rfl, rfl⟩
set_option maxRecDepth 100000 in
set_option maxHeartbeats 1600000 in
theorem opd_fi (w : World) (R g n c I : Nat) (T : List Tk) (E : Int) (d : Nat) (h : RZ w R g T n c I E d 0 0) (hlg : g < w.heap.size) (hn7 : n ≤ 1000000) (hT : LT T) (hId : I + d ≤ n + 32) (hIn : I ≤ n) (hI : I < n) (hk : (T.getD I default).k = 1) (hw : (T.getD I default).w = [105, 110]) : Calls Tryd.prog 84 #[.pointer (some ⟨R, 0, none⟩)] w (ExAns w R g T n c I E d (.err (T.getD I default).a 41)) := by
  have hRl := h.lt
  have Z0 := Lib.hid h
  have F0 := Lib.hid (Fr.refl (fun k => k = R) w)
  have HB := Lib.hid (And.intro hlg (And.intro hId (And.intro hIn h.hn)))
  have HI40 := Lib.hid (fun (W : World) (hW : RZ W R g T n c I E d 0 0) => (show Calls Tryd.prog 48 #[.pointer (some ⟨R, 0, none⟩), .string ⟨#[40]⟩] W (fun e w' => e = .returned (.bool false) ∧ ∃ j, w' = W.drewN j) from is_any W R g n c I T E d 0 0 hW [40] false (fun a b => hT.kw _ (getD_mem (by rw [h.hn]; exact a)) (by rw [b]; decide)) (by symm; exact decide_eq_false (fun a => by rw [hw] at a; exact absurd a.2 (by decide)))))
  have HI1 := Lib.hid (fun (W : World) (hW : RZ W R g T n c I E d 0 0) => (show Calls Tryd.prog 48 #[.pointer (some ⟨R, 0, none⟩), .string ⟨#[105, 110]⟩] W (fun e w' => e = .returned (.bool true) ∧ ∃ j, w' = W.drewN j) from is_any W R g n c I T E d 0 0 hW [105, 110] true (fun a b => hT.kw _ (getD_mem (by rw [h.hn]; exact a)) (by rw [b]; decide)) (by symm; exact decide_eq_true ⟨hI, hw⟩)))
  obtain ⟨t, ht⟩ : ∃ t, t = T.getD I default := ⟨_, rfl⟩
  rw [← ht] at hk hw ⊢
  obtain ⟨pa, hpa⟩ : ∃ pa, pa = t.a := ⟨_, rfl⟩
  rw [← hpa]
  have HPL := Lib.hid (show placeR T I E = pa by rw [hpa, ht]; unfold placeR; rw [if_pos (by rw [h.hn]; omega)])
  have HTT := Lib.hid ht
  have hd : decide ((I : Int) < (n : Int)) = true := by simp; omega
  have hk2 : (t.k == 2) = false := by rw [hk]; rfl
  have hk1 : (t.k == 1) = true := by rw [hk]; rfl
  have q1 := idxTo g n c I hI
  have HNM := Lib.hid (fun W => (show Calls Tryd.prog 18 #[.string (bs t.w)] W (fun e w' => e = .returned (.bool false) ∧ Below W.heap.size W w') from (by have h1 := rname_any t.w W (by rw [hw]; decide); rw [(kw_name (w := t.w) (by rw [hw]; simp)).1] at h1; exact h1)))
  clear h hlg hId hIn hT hk hw ht hpa
  go_enter Tryd.func84, Tryd.ntmps84
  go_wp2_with fail
  refine (HI40.out _ Z0.out).mono ?_
  rintro e w1 ⟨rfl, j1, e1⟩
  have Z1 := Lib.hid (show RZ w1 R g T n c I E d 0 0 by rw [e1]; exact Z0.out.keep (below_drewN (Below.refl _ _) (Nat.le_refl _)))
  have F1 := Lib.hid (show Fr (fun k => k = R) w w1 by rw [e1]; exact F0.out.drewN _)
  clear e1
  obtain ⟨c0, c1, -, -, -, -⟩ := Z1.out.c0
  have u0 := fun j => (show (w1.drewN j).cell? ⟨R, 0, none⟩ = some (.slice (some ⟨g, 0, none⟩) n c) from c0)
  have u1 := fun j => (show (w1.drewN j).cell? ⟨R, 1, none⟩ = some (.int .i64 I) from c1)
  obtain ⟨k0, k1, k2, -⟩ := Z1.out.tok I hI
  rw [← HTT.out] at k0 k1 k2
  have v0 := fun j => (show (w1.drewN j).cell? ⟨g, I * 4, none⟩ = some (.int .i64 t.k) from k0)
  have v1 := fun j => (show (w1.drewN j).cell? ⟨g, I * 4 + 1, none⟩ = some (.int .i64 t.a) from k1)
  have v2 := fun j => (show (w1.drewN j).cell? ⟨g, I * 4 + 2, none⟩ = some (.string (bs t.w)) from k2)
  clear c0 c1 k0 k1 k2
  go_wp2
  go_quiet (fail)
  clear u0 u1 v0 v1 v2
  obtain ⟨w2, hw2⟩ : ∃ w2, w2 = w1.drewN nq := ⟨_, rfl⟩
  rw [← hw2]
  have Z2 := Lib.hid (show RZ w2 R g T n c I E d 0 0 by rw [hw2]; exact Z1.out.keep (below_drewN (Below.refl _ _) (Nat.le_refl _)))
  have F2 := Lib.hid (show Fr (fun k => k = R) w w2 by rw [hw2]; exact F1.out.drewN _)
  clear hw2
  have KS : ∀ w' : World, Hid (Below w2.heap.size w2 w') → w'.cell? ⟨R, 0, none⟩ = some (.slice (some ⟨g, 0, none⟩) n c) ∧ w'.cell? ⟨R, 1, none⟩ = some (.int .i64 I) ∧ w'.cell? ⟨g, I * 4, none⟩ = some (.int .i64 t.k) ∧ w'.cell? ⟨g, I * 4 + 2, none⟩ = some (.string (bs t.w)) ∧ Hid (Below w2.heap.size w2 w') := fun w' h => ⟨(cell_below h.out Z2.out.lt 0).trans Z2.out.c0.1, (cell_below h.out Z2.out.lt 1).trans Z2.out.c0.2.1, (cell_below h.out Z2.out.lg _).trans (by rw [HTT.out]; exact (Z2.out.tok I hI).1), (cell_below h.out Z2.out.lg _).trans (by rw [HTT.out]; exact (Z2.out.tok I hI).2.2.1), h⟩
  have hb2 : Hid (Below w2.heap.size w2 w2) := Below.refl _ _
  obtain ⟨r0, r1, g0, g2, -⟩ := KS w2 hb2
  go_wp2
  go_region_held3 (fun w' => w'.cell? ⟨R, 0, none⟩ = some (.slice (some ⟨g, 0, none⟩) n c) ∧ w'.cell? ⟨R, 1, none⟩ = some (.int .i64 I) ∧ w'.cell? ⟨g, I * 4, none⟩ = some (.int .i64 t.k) ∧ w'.cell? ⟨g, I * 4 + 2, none⟩ = some (.string (bs t.w)) ∧ Hid (Below w2.heap.size w2 w'))
    (first | (exact KS _ (by first | assumption | exact hidDrew (by assumption) _)) | go_keep)
    (first | (go_at_call 18; refine (HNM.out _).mono ?_; rintro e w6 ⟨rfl, g6⟩; have k6 : Hid (Below w2.heap.size w2 w6) := hidTrans (by simp [*]) g6; clear g6))
  clear KS hb2 r0 r1 g0 g2
  have Z6 := Lib.hid (Z2.out.keep k6.out)
  have F6 := Lib.hid (F2.out.trans (below_fr k6.out _))
  go_wp2_with fail
  refine (HI1.out _ Z6.out).mono ?_
  rintro e w7 ⟨rfl, j7, e7⟩
  have Z7 := Lib.hid (show RZ w7 R g T n c I E d 0 0 by rw [e7]; exact Z6.out.keep (below_drewN (Below.refl _ _) (Nat.le_refl _)))
  have F7 := Lib.hid (show Fr (fun k => k = R) w w7 by rw [e7]; exact F6.out.drewN _)
  clear e7
  go_wp2_with fail
  refine (no_any _ R g n c I T E d 0 0 41 Z7.out).mono ?_
  rintro e w9 ⟨rfl, z9, f9⟩
  rw [HPL.out] at z9
  have Z9 := Lib.hid z9
  have F9 := Lib.hid (F7.out.trans f9)
  clear z9 f9
  go_wp2
  refine bodyPost_ret (v := .slice none 0 0) (by simp [results, Tryd.results84, go_sem]) rfl ?_
  exact ⟨none, 0, 0, [], rfl, OI.nil _ _, F9.out, Nat.zero_le _, I, pa, 41, Z9.out, HB.out.2.1, rfl, rfl, rfl⟩
set_option maxRecDepth 100000 in
set_option maxHeartbeats 1600000 in
theorem opd_fo (w : World) (R g n c I : Nat) (T : List Tk) (E : Int) (d : Nat) (h : RZ w R g T n c I E d 0 0) (hlg : g < w.heap.size) (hn7 : n ≤ 1000000) (hT : LT T) (hId : I + d ≤ n + 32) (hIn : I ≤ n) (hI : I < n) (hk : (T.getD I default).k = 1) (hw : (T.getD I default).w = [111, 117, 116]) : Calls Tryd.prog 84 #[.pointer (some ⟨R, 0, none⟩)] w (ExAns w R g T n c I E d (.err (T.getD I default).a 41)) := by
  have hRl := h.lt
  have Z0 := Lib.hid h
  have F0 := Lib.hid (Fr.refl (fun k => k = R) w)
  have HB := Lib.hid (And.intro hlg (And.intro hId (And.intro hIn h.hn)))
  have HI40 := Lib.hid (fun (W : World) (hW : RZ W R g T n c I E d 0 0) => (show Calls Tryd.prog 48 #[.pointer (some ⟨R, 0, none⟩), .string ⟨#[40]⟩] W (fun e w' => e = .returned (.bool false) ∧ ∃ j, w' = W.drewN j) from is_any W R g n c I T E d 0 0 hW [40] false (fun a b => hT.kw _ (getD_mem (by rw [h.hn]; exact a)) (by rw [b]; decide)) (by symm; exact decide_eq_false (fun a => by rw [hw] at a; exact absurd a.2 (by decide)))))
  have HI1 := Lib.hid (fun (W : World) (hW : RZ W R g T n c I E d 0 0) => (show Calls Tryd.prog 48 #[.pointer (some ⟨R, 0, none⟩), .string ⟨#[105, 110]⟩] W (fun e w' => e = .returned (.bool false) ∧ ∃ j, w' = W.drewN j) from is_any W R g n c I T E d 0 0 hW [105, 110] false (fun a b => hT.kw _ (getD_mem (by rw [h.hn]; exact a)) (by rw [b]; decide)) (by symm; exact decide_eq_false (fun a => by rw [hw] at a; exact absurd a.2 (by decide)))))
  have HI2 := Lib.hid (fun (W : World) (hW : RZ W R g T n c I E d 0 0) => (show Calls Tryd.prog 48 #[.pointer (some ⟨R, 0, none⟩), .string ⟨#[111, 117, 116]⟩] W (fun e w' => e = .returned (.bool true) ∧ ∃ j, w' = W.drewN j) from is_any W R g n c I T E d 0 0 hW [111, 117, 116] true (fun a b => hT.kw _ (getD_mem (by rw [h.hn]; exact a)) (by rw [b]; decide)) (by symm; exact decide_eq_true ⟨hI, hw⟩)))
  obtain ⟨t, ht⟩ : ∃ t, t = T.getD I default := ⟨_, rfl⟩
  rw [← ht] at hk hw ⊢
  obtain ⟨pa, hpa⟩ : ∃ pa, pa = t.a := ⟨_, rfl⟩
  rw [← hpa]
  have HPL := Lib.hid (show placeR T I E = pa by rw [hpa, ht]; unfold placeR; rw [if_pos (by rw [h.hn]; omega)])
  have HTT := Lib.hid ht
  have hd : decide ((I : Int) < (n : Int)) = true := by simp; omega
  have hk2 : (t.k == 2) = false := by rw [hk]; rfl
  have hk1 : (t.k == 1) = true := by rw [hk]; rfl
  have q1 := idxTo g n c I hI
  have HNM := Lib.hid (fun W => (show Calls Tryd.prog 18 #[.string (bs t.w)] W (fun e w' => e = .returned (.bool false) ∧ Below W.heap.size W w') from (by have h1 := rname_any t.w W (by rw [hw]; decide); rw [(kw_name (w := t.w) (by rw [hw]; simp)).1] at h1; exact h1)))
  clear h hlg hId hIn hT hk hw ht hpa
  go_enter Tryd.func84, Tryd.ntmps84
  go_wp2_with fail
  refine (HI40.out _ Z0.out).mono ?_
  rintro e w1 ⟨rfl, j1, e1⟩
  have Z1 := Lib.hid (show RZ w1 R g T n c I E d 0 0 by rw [e1]; exact Z0.out.keep (below_drewN (Below.refl _ _) (Nat.le_refl _)))
  have F1 := Lib.hid (show Fr (fun k => k = R) w w1 by rw [e1]; exact F0.out.drewN _)
  clear e1
  obtain ⟨c0, c1, -, -, -, -⟩ := Z1.out.c0
  have u0 := fun j => (show (w1.drewN j).cell? ⟨R, 0, none⟩ = some (.slice (some ⟨g, 0, none⟩) n c) from c0)
  have u1 := fun j => (show (w1.drewN j).cell? ⟨R, 1, none⟩ = some (.int .i64 I) from c1)
  obtain ⟨k0, k1, k2, -⟩ := Z1.out.tok I hI
  rw [← HTT.out] at k0 k1 k2
  have v0 := fun j => (show (w1.drewN j).cell? ⟨g, I * 4, none⟩ = some (.int .i64 t.k) from k0)
  have v1 := fun j => (show (w1.drewN j).cell? ⟨g, I * 4 + 1, none⟩ = some (.int .i64 t.a) from k1)
  have v2 := fun j => (show (w1.drewN j).cell? ⟨g, I * 4 + 2, none⟩ = some (.string (bs t.w)) from k2)
  clear c0 c1 k0 k1 k2
  go_wp2
  go_quiet (fail)
  clear u0 u1 v0 v1 v2
  obtain ⟨w2, hw2⟩ : ∃ w2, w2 = w1.drewN nq := ⟨_, rfl⟩
  rw [← hw2]
  have Z2 := Lib.hid (show RZ w2 R g T n c I E d 0 0 by rw [hw2]; exact Z1.out.keep (below_drewN (Below.refl _ _) (Nat.le_refl _)))
  have F2 := Lib.hid (show Fr (fun k => k = R) w w2 by rw [hw2]; exact F1.out.drewN _)
  clear hw2
  have KS : ∀ w' : World, Hid (Below w2.heap.size w2 w') → w'.cell? ⟨R, 0, none⟩ = some (.slice (some ⟨g, 0, none⟩) n c) ∧ w'.cell? ⟨R, 1, none⟩ = some (.int .i64 I) ∧ w'.cell? ⟨g, I * 4, none⟩ = some (.int .i64 t.k) ∧ w'.cell? ⟨g, I * 4 + 2, none⟩ = some (.string (bs t.w)) ∧ Hid (Below w2.heap.size w2 w') := fun w' h => ⟨(cell_below h.out Z2.out.lt 0).trans Z2.out.c0.1, (cell_below h.out Z2.out.lt 1).trans Z2.out.c0.2.1, (cell_below h.out Z2.out.lg _).trans (by rw [HTT.out]; exact (Z2.out.tok I hI).1), (cell_below h.out Z2.out.lg _).trans (by rw [HTT.out]; exact (Z2.out.tok I hI).2.2.1), h⟩
  have hb2 : Hid (Below w2.heap.size w2 w2) := Below.refl _ _
  obtain ⟨r0, r1, g0, g2, -⟩ := KS w2 hb2
  go_wp2
  go_region_held3 (fun w' => w'.cell? ⟨R, 0, none⟩ = some (.slice (some ⟨g, 0, none⟩) n c) ∧ w'.cell? ⟨R, 1, none⟩ = some (.int .i64 I) ∧ w'.cell? ⟨g, I * 4, none⟩ = some (.int .i64 t.k) ∧ w'.cell? ⟨g, I * 4 + 2, none⟩ = some (.string (bs t.w)) ∧ Hid (Below w2.heap.size w2 w'))
    (first | (exact KS _ (by first | assumption | exact hidDrew (by assumption) _)) | go_keep)
    (first | (go_at_call 18; refine (HNM.out _).mono ?_; rintro e w6 ⟨rfl, g6⟩; have k6 : Hid (Below w2.heap.size w2 w6) := hidTrans (by simp [*]) g6; clear g6))
  clear KS hb2 r0 r1 g0 g2
  have Z6 := Lib.hid (Z2.out.keep k6.out)
  have F6 := Lib.hid (F2.out.trans (below_fr k6.out _))
  go_wp2_with fail
  refine (HI1.out _ Z6.out).mono ?_
  rintro e w7 ⟨rfl, j7, e7⟩
  have Z7 := Lib.hid (show RZ w7 R g T n c I E d 0 0 by rw [e7]; exact Z6.out.keep (below_drewN (Below.refl _ _) (Nat.le_refl _)))
  have F7 := Lib.hid (show Fr (fun k => k = R) w w7 by rw [e7]; exact F6.out.drewN _)
  clear e7
  go_wp2_with fail
  refine (HI2.out _ Z7.out).mono ?_
  rintro e w8 ⟨rfl, j8, e8⟩
  have Z8 := Lib.hid (show RZ w8 R g T n c I E d 0 0 by rw [e8]; exact Z7.out.keep (below_drewN (Below.refl _ _) (Nat.le_refl _)))
  have F8 := Lib.hid (show Fr (fun k => k = R) w w8 by rw [e8]; exact F7.out.drewN _)
  clear e8
  go_wp2_with fail
  refine (no_any _ R g n c I T E d 0 0 41 Z8.out).mono ?_
  rintro e w9 ⟨rfl, z9, f9⟩
  rw [HPL.out] at z9
  have Z9 := Lib.hid z9
  have F9 := Lib.hid (F8.out.trans f9)
  clear z9 f9
  go_wp2
  refine bodyPost_ret (v := .slice none 0 0) (by simp [results, Tryd.results84, go_sem]) rfl ?_
  exact ⟨none, 0, 0, [], rfl, OI.nil _ _, F9.out, Nat.zero_le _, I, pa, 41, Z9.out, HB.out.2.1, rfl, rfl, rfl⟩
set_option maxRecDepth 100000 in
set_option maxHeartbeats 1600000 in
theorem opd_a (w : World) (R g n c I : Nat) (T : List Tk) (E : Int) (d : Nat) (h : RZ w R g T n c I E d 0 0) (hlg : g < w.heap.size) (hn7 : n ≤ 1000000) (hT : LT T) (hId : I + d ≤ n + 32) (hIn : I ≤ n) (hI : I < n) (hw : (T.getD I default).w = [40]) (hd32 : d = 32) : Calls Tryd.prog 84 #[.pointer (some ⟨R, 0, none⟩)] w (ExAns w R g T n c I E d (.err (T.getD I default).a 44)) := by
  have hRl := h.lt
  have Z0 := Lib.hid h
  have F0 := Lib.hid (Fr.refl (fun k => k = R) w)
  have HB := Lib.hid (And.intro hlg (And.intro hId (And.intro hIn h.hn)))
  have HI40 := Lib.hid (fun (W : World) (hW : RZ W R g T n c I E d 0 0) => (show Calls Tryd.prog 48 #[.pointer (some ⟨R, 0, none⟩), .string ⟨#[40]⟩] W (fun e w' => e = .returned (.bool true) ∧ ∃ j, w' = W.drewN j) from is_any W R g n c I T E d 0 0 hW [40] true (fun a b => hT.kw _ (getD_mem (by rw [h.hn]; exact a)) (by rw [b]; decide)) (by symm; exact decide_eq_true ⟨hI, hw⟩)))
  obtain ⟨pa, hpa⟩ : ∃ pa, pa = (T.getD I default).a := ⟨_, rfl⟩
  rw [← hpa]
  have HPL := Lib.hid (show placeR T I E = pa by rw [hpa]; unfold placeR; rw [if_pos (by rw [h.hn]; omega)])
  have hd3 : ((d : Int) == 32) = true := by simp; omega
  clear h hlg hId hIn hT hw hd32 hpa
  go_enter Tryd.func84, Tryd.ntmps84
  go_wp2_with fail
  refine (HI40.out _ Z0.out).mono ?_
  rintro e w1 ⟨rfl, j1, e1⟩
  have Z1 := Lib.hid (show RZ w1 R g T n c I E d 0 0 by rw [e1]; exact Z0.out.keep (below_drewN (Below.refl _ _) (Nat.le_refl _)))
  have F1 := Lib.hid (show Fr (fun k => k = R) w w1 by rw [e1]; exact F0.out.drewN _)
  clear e1
  obtain ⟨-, -, -, c3, -, -⟩ := Z1.out.c0
  go_wp2_with fail
  refine (no_any _ R g n c I T E d 0 0 44 Z1.out).mono ?_
  rintro e w9 ⟨rfl, z9, f9⟩
  rw [HPL.out] at z9
  have Z9 := Lib.hid z9
  have F9 := Lib.hid (F1.out.trans f9)
  clear z9 f9
  go_wp2
  refine bodyPost_ret (v := .slice none 0 0) (by simp [results, Tryd.results84, go_sem]) rfl ?_
  exact ⟨none, 0, 0, [], rfl, OI.nil _ _, F9.out, Nat.zero_le _, I, pa, 44, Z9.out, HB.out.2.1, rfl, rfl, rfl⟩
end Go.Proofs.YthdognmppbckbaaDoor
