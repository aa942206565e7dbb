/- The document's Expr: behind an operand. Written by gen_zc.py. -/
import Derived.Test.YthdognmppbckbaaDoorZPq
namespace Go.Proofs.YthdognmppbckbaaDoor
open Go.RowKit
set_option linter.unusedVariables false
set_option maxRecDepth 100000 in
set_option maxHeartbeats 1600000 in
theorem expr_o1 (w : World) (R g n c I : Nat) (T : List Tk) (E : Int) (d : Nat) (h : RZ w R g T n c I E d 0 0) (hlg : g < w.heap.size) (hn7 : n ≤ 1000000) (hT : LT T) (hId : I + d ≤ n + 32) (hIn : I ≤ n) (hv : ¬ (I < n ∧ vb (T.getD I default).w = true)) (a e0 : Int) (HO : ∀ W : World, RZ W R g T n c I E d 0 0 → g < W.heap.size → Calls Tryd.prog 84 #[.pointer (some ⟨R, 0, none⟩)] W (ExAns W R g T n c I E d (.err a e0))) : Calls Tryd.prog 70 #[.pointer (some ⟨R, 0, none⟩)] w (ExAns w R g T n c I E d (.err a e0)) := by
  have hRl := h.lt
  have HV := Lib.hid (verb04_any w R g n c I T E d 0 0 h false (fun a b => by rw [hT.k2 _ (getD_mem (by rw [h.hn]; exact a)) b]; exact vb_nil) (by symm; exact decide_eq_false hv))
  have HZ := Lib.hid h
  have HOO := Lib.hid HO
  have HB := Lib.hid (And.intro hlg (And.intro hId (And.intro hIn h.hn)))
  clear h hv hT hlg hId hIn HO
  go_enter Tryd.func70, Tryd.ntmps70
  go_wp2_with fail
  refine HV.out.mono ?_
  rintro e w1 ⟨rfl, j1, e1⟩
  have Z1 := Lib.hid (show RZ w1 R g T n c I E d 0 0 by rw [e1]; exact HZ.out.keep (below_drewN (Below.refl _ _) (Nat.le_refl _)))
  have F1 := Lib.hid (show Fr (fun k => k = R) w w1 by rw [e1]; exact (Fr.refl _ _).drewN j1)
  clear e1 HV
  go_wp2_with fail
  refine (HOO.out _ Z1.out (Nat.lt_of_lt_of_le HB.out.1 F1.out.size)).mono ?_
  rintro e w2 ⟨A, m, k, l, rfl, o2, f2, hm2, I', fa, fc, z2, hI', ok2⟩
  obtain ⟨rfl, rfl, hne⟩ := ok2
  obtain ⟨J, hJ⟩ : ∃ J, J = I' := ⟨_, rfl⟩
  rw [← hJ] at z2 hI'
  clear hJ
  have O2 := Lib.hid (o2.base (B' := w.heap.size) F1.out.size)
  have F2 := Lib.hid (F1.out.trans f2)
  have Z2 := Lib.hid z2
  obtain ⟨c0, c1, -, -, -, c5⟩ := z2.c0
  have u0 := fun j => (show (w2.drewN j).cell? ⟨R, 0, none⟩ = some (.slice (some ⟨g, 0, none⟩) n c) from c0)
  have u1 := fun j => (show (w2.drewN j).cell? ⟨R, 1, none⟩ = some (.int .i64 J) from c1)
  have u5 := fun j => (show (w2.drewN j).cell? ⟨R, 5, none⟩ = some (.int .i64 fc) from c5)
  clear o2 f2 z2 c0 c1 c5 HOO
  have K2 := Lib.hid (And.intro hI' hm2)
  clear hI' hm2
  go_wp2
  go_quiet (fail)
  go_wp2
  refine bodyPost_ret (v := .slice A m k) (by simp [results, Tryd.results70, go_sem]) rfl ?_
  exact ⟨A, m, k, l, rfl, by first | exact O2.out | exact O2.out.below (below_drewN (Below.refl _ _) (Nat.le_refl _)), by first | exact F2.out | exact F2.out.drewN _, K2.out.2, J, fa, fc, by first | exact Z2.out | exact Z2.out.keep (below_drewN (Below.refl _ _) (Nat.le_refl _)), K2.out.1, rfl, rfl, hne⟩
set_option maxRecDepth 100000 in
set_option maxHeartbeats 1600000 in
theorem expr_o2 (w : World) (R g n c I : Nat) (T : List Tk) (E : Int) (d : Nat) (h : RZ w R g T n c I E d 0 0) (hlg : g < w.heap.size) (hn7 : n ≤ 1000000) (hT : LT T) (hId : I + d ≤ n + 32) (hIn : I ≤ n) (hv : ¬ (I < n ∧ vb (T.getD I default).w = true)) (J : Nat) (hJle : J ≤ n) (left : List It) (HO : ∀ W : World, RZ W R g T n c I E d 0 0 → g < W.heap.size → Calls Tryd.prog 84 #[.pointer (some ⟨R, 0, none⟩)] W (ExAns W R g T n c I E d (.ok left (tl T E J)))) (hJn : J = n) : Calls Tryd.prog 70 #[.pointer (some ⟨R, 0, none⟩)] w (ExAns w R g T n c I E d (.ok left (tl T E J))) := by
  have hRl := h.lt
  have HV := Lib.hid (verb04_any w R g n c I T E d 0 0 h false (fun a b => by rw [hT.k2 _ (getD_mem (by rw [h.hn]; exact a)) b]; exact vb_nil) (by symm; exact decide_eq_false hv))
  have HZ := Lib.hid h
  have HOO := Lib.hid HO
  have HB := Lib.hid (And.intro hlg (And.intro hId (And.intro hIn h.hn)))
  clear h hv hT hlg hId hIn HO
  go_enter Tryd.func70, Tryd.ntmps70
  go_wp2_with fail
  refine HV.out.mono ?_
  rintro e w1 ⟨rfl, j1, e1⟩
  have Z1 := Lib.hid (show RZ w1 R g T n c I E d 0 0 by rw [e1]; exact HZ.out.keep (below_drewN (Below.refl _ _) (Nat.le_refl _)))
  have F1 := Lib.hid (show Fr (fun k => k = R) w w1 by rw [e1]; exact (Fr.refl _ _).drewN j1)
  clear e1 HV
  go_wp2_with fail
  refine (HOO.out _ Z1.out (Nat.lt_of_lt_of_le HB.out.1 F1.out.size)).mono ?_
  rintro e w2 ⟨A, m, k, l, rfl, o2, f2, hm2, I', fa, fc, z2, hI', ok2⟩
  obtain ⟨rfl, rfl, rfl, hIJ, hI'n, htl, hmJ⟩ := ok2
  obtain rfl : I' = J := tl_inj HB.out.2.2.2 htl hI'n hJle
  have K2 := Lib.hid (And.intro hI' (And.intro hm2 hmJ))
  clear htl hI' hmJ
  have O2 := Lib.hid (o2.base (B' := w.heap.size) F1.out.size)
  have F2 := Lib.hid (F1.out.trans f2)
  have Z2 := Lib.hid z2
  obtain ⟨c0, c1, -, -, -, c5⟩ := z2.c0
  have u0 := fun j => (show (w2.drewN j).cell? ⟨R, 0, none⟩ = some (.slice (some ⟨g, 0, none⟩) n c) from c0)
  have u1 := fun j => (show (w2.drewN j).cell? ⟨R, 1, none⟩ = some (.int .i64 I') from c1)
  have u5 := fun j => (show (w2.drewN j).cell? ⟨R, 5, none⟩ = some (.int .i64 0) from c5)
  clear o2 f2 z2 c0 c1 c5 HOO
  have hd : decide ((n : Int) ≤ (I' : Int)) = true := by simp; omega
  go_wp2
  go_quiet (fail)
  go_wp2
  refine bodyPost_ret (v := .slice A m k) (by simp [results, Tryd.results70, go_sem]) rfl ?_
  exact ⟨A, m, k, l, rfl, by first | exact O2.out | exact O2.out.below (below_drewN (Below.refl _ _) (Nat.le_refl _)), by first | exact F2.out | exact F2.out.drewN _, K2.out.2.1, I', 0, 0, by first | exact Z2.out | exact Z2.out.keep (below_drewN (Below.refl _ _) (Nat.le_refl _)), K2.out.1, rfl, rfl, rfl, hIJ, hI'n, rfl, K2.out.2.2⟩
set_option maxRecDepth 100000 in
set_option maxHeartbeats 1600000 in
theorem expr_o3 (w : World) (R g n c I : Nat) (T : List Tk) (E : Int) (d : Nat) (h : RZ w R g T n c I E d 0 0) (hlg : g < w.heap.size) (hn7 : n ≤ 1000000) (hT : LT T) (hId : I + d ≤ n + 32) (hIn : I ≤ n) (hv : ¬ (I < n ∧ vb (T.getD I default).w = true)) (J : Nat) (hJle : J ≤ n) (left : List It) (HO : ∀ W : World, RZ W R g T n c I E d 0 0 → g < W.heap.size → Calls Tryd.prog 84 #[.pointer (some ⟨R, 0, none⟩)] W (ExAns W R g T n c I E d (.ok left (tl T E J)))) (hJn : J < n) (hw : (T.getD J default).w = [41]) : Calls Tryd.prog 70 #[.pointer (some ⟨R, 0, none⟩)] w (ExAns w R g T n c I E d (.ok left (tl T E J))) := by
  have hRl := h.lt
  have HV := Lib.hid (verb04_any w R g n c I T E d 0 0 h false (fun a b => by rw [hT.k2 _ (getD_mem (by rw [h.hn]; exact a)) b]; exact vb_nil) (by symm; exact decide_eq_false hv))
  have HZ := Lib.hid h
  have HOO := Lib.hid HO
  have HB := Lib.hid (And.intro hlg (And.intro hId (And.intro hIn h.hn)))
  have HIS := Lib.hid (fun (W : World) (hW : RZ W R g T n c J E d 0 0) => (show Calls Tryd.prog 48 #[.pointer (some ⟨R, 0, none⟩), .string ⟨#[41]⟩] W (fun e w' => e = .returned (.bool true) ∧ ∃ j, w' = W.drewN j) from is_any W R g n c J T E d 0 0 hW [41] true (fun a b => hT.kw _ (getD_mem (by rw [h.hn]; exact a)) (by rw [b]; decide)) (by symm; exact decide_eq_true ⟨hJn, hw⟩)))
  clear hw
  clear h hv hT hlg hId hIn HO
  go_enter Tryd.func70, Tryd.ntmps70
  go_wp2_with fail
  refine HV.out.mono ?_
  rintro e w1 ⟨rfl, j1, e1⟩
  have Z1 := Lib.hid (show RZ w1 R g T n c I E d 0 0 by rw [e1]; exact HZ.out.keep (below_drewN (Below.refl _ _) (Nat.le_refl _)))
  have F1 := Lib.hid (show Fr (fun k => k = R) w w1 by rw [e1]; exact (Fr.refl _ _).drewN j1)
  clear e1 HV
  go_wp2_with fail
  refine (HOO.out _ Z1.out (Nat.lt_of_lt_of_le HB.out.1 F1.out.size)).mono ?_
  rintro e w2 ⟨A, m, k, l, rfl, o2, f2, hm2, I', fa, fc, z2, hI', ok2⟩
  obtain ⟨rfl, rfl, rfl, hIJ, hI'n, htl, hmJ⟩ := ok2
  obtain rfl : I' = J := tl_inj HB.out.2.2.2 htl hI'n hJle
  have K2 := Lib.hid (And.intro hI' (And.intro hm2 hmJ))
  clear htl hI' hmJ
  have O2 := Lib.hid (o2.base (B' := w.heap.size) F1.out.size)
  have F2 := Lib.hid (F1.out.trans f2)
  have Z2 := Lib.hid z2
  obtain ⟨c0, c1, -, -, -, c5⟩ := z2.c0
  have u0 := fun j => (show (w2.drewN j).cell? ⟨R, 0, none⟩ = some (.slice (some ⟨g, 0, none⟩) n c) from c0)
  have u1 := fun j => (show (w2.drewN j).cell? ⟨R, 1, none⟩ = some (.int .i64 I') from c1)
  have u5 := fun j => (show (w2.drewN j).cell? ⟨R, 5, none⟩ = some (.int .i64 0) from c5)
  clear o2 f2 z2 c0 c1 c5 HOO
  have hd : decide ((n : Int) ≤ (I' : Int)) = false := by simp; omega
  have HQ := fun j => HIS.out (w2.drewN j) (Z2.out.keep (below_drewN (Below.refl _ _) (Nat.le_refl _)))
  go_wp2
  go_quiet (first | (go_at_call 48; exact Calls.quiet_of (HQ _)))
  go_wp2
  refine bodyPost_ret (v := .slice A m k) (by simp [results, Tryd.results70, go_sem]) rfl ?_
  exact ⟨A, m, k, l, rfl, by first | exact O2.out | exact O2.out.below (below_drewN (Below.refl _ _) (Nat.le_refl _)), by first | exact F2.out | exact F2.out.drewN _, K2.out.2.1, I', 0, 0, by first | exact Z2.out | exact Z2.out.keep (below_drewN (Below.refl _ _) (Nat.le_refl _)), K2.out.1, rfl, rfl, rfl, hIJ, hI'n, rfl, K2.out.2.2⟩
set_option maxRecDepth 100000 in
set_option maxHeartbeats 1600000 in
theorem expr_o4 (w : World) (R g n c I : Nat) (T : List Tk) (E : Int) (d : Nat) (h : RZ w R g T n c I E d 0 0) (hlg : g < w.heap.size) (hn7 : n ≤ 1000000) (hT : LT T) (hId : I + d ≤ n + 32) (hIn : I ≤ n) (hv : ¬ (I < n ∧ vb (T.getD I default).w = true)) (J : Nat) (hJle : J ≤ n) (left : List It) (HO : ∀ W : World, RZ W R g T n c I E d 0 0 → g < W.heap.size → Calls Tryd.prog 84 #[.pointer (some ⟨R, 0, none⟩)] W (ExAns W R g T n c I E d (.ok left (tl T E J)))) (hJn : J < n) (hw : ¬ (T.getD J default).w = [41]) (hvj : ¬ vb (T.getD J default).w = true) : Calls Tryd.prog 70 #[.pointer (some ⟨R, 0, none⟩)] w (ExAns w R g T n c I E d (.err (T.getD J default).a 46)) := by
  have hRl := h.lt
  have HV := Lib.hid (verb04_any w R g n c I T E d 0 0 h false (fun a b => by rw [hT.k2 _ (getD_mem (by rw [h.hn]; exact a)) b]; exact vb_nil) (by symm; exact decide_eq_false hv))
  have HZ := Lib.hid h
  have HOO := Lib.hid HO
  have HB := Lib.hid (And.intro hlg (And.intro hId (And.intro hIn h.hn)))
  have HIS := Lib.hid (fun (W : World) (hW : RZ W R g T n c J E d 0 0) => (show Calls Tryd.prog 48 #[.pointer (some ⟨R, 0, none⟩), .string ⟨#[41]⟩] W (fun e w' => e = .returned (.bool false) ∧ ∃ j, w' = W.drewN j) from is_any W R g n c J T E d 0 0 hW [41] false (fun a b => hT.kw _ (getD_mem (by rw [h.hn]; exact a)) (by rw [b]; decide)) (by symm; exact decide_eq_false (fun a => hw a.2))))
  have HV2 := Lib.hid (fun (W : World) (hW : RZ W R g T n c J E d 0 0) => verb04_any W R g n c J T E d 0 0 hW false (fun a b => by rw [hT.k2 _ (getD_mem (by rw [h.hn]; exact a)) b]; exact vb_nil) (by symm; exact decide_eq_false (fun a => hvj a.2)))
  obtain ⟨pa, hpa⟩ : ∃ pa, pa = (T.getD J default).a := ⟨_, rfl⟩
  rw [← hpa]
  have HPL := Lib.hid (show placeR T J E = pa by rw [hpa]; unfold placeR; rw [if_pos (by rw [h.hn]; exact hJn)])
  clear hw hvj hpa
  clear h hv hT hlg hId hIn HO
  go_enter Tryd.func70, Tryd.ntmps70
  go_wp2_with fail
  refine HV.out.mono ?_
  rintro e w1 ⟨rfl, j1, e1⟩
  have Z1 := Lib.hid (show RZ w1 R g T n c I E d 0 0 by rw [e1]; exact HZ.out.keep (below_drewN (Below.refl _ _) (Nat.le_refl _)))
  have F1 := Lib.hid (show Fr (fun k => k = R) w w1 by rw [e1]; exact (Fr.refl _ _).drewN j1)
  clear e1 HV
  go_wp2_with fail
  refine (HOO.out _ Z1.out (Nat.lt_of_lt_of_le HB.out.1 F1.out.size)).mono ?_
  rintro e w2 ⟨A, m, k, l, rfl, o2, f2, hm2, I', fa, fc, z2, hI', ok2⟩
  obtain ⟨rfl, rfl, rfl, hIJ, hI'n, htl, hmJ⟩ := ok2
  obtain rfl : I' = J := tl_inj HB.out.2.2.2 htl hI'n hJle
  have K2 := Lib.hid (And.intro hI' (And.intro hm2 hmJ))
  clear htl hI' hmJ
  have O2 := Lib.hid (o2.base (B' := w.heap.size) F1.out.size)
  have F2 := Lib.hid (F1.out.trans f2)
  have Z2 := Lib.hid z2
  obtain ⟨c0, c1, -, -, -, c5⟩ := z2.c0
  have u0 := fun j => (show (w2.drewN j).cell? ⟨R, 0, none⟩ = some (.slice (some ⟨g, 0, none⟩) n c) from c0)
  have u1 := fun j => (show (w2.drewN j).cell? ⟨R, 1, none⟩ = some (.int .i64 I') from c1)
  have u5 := fun j => (show (w2.drewN j).cell? ⟨R, 5, none⟩ = some (.int .i64 0) from c5)
  clear o2 f2 z2 c0 c1 c5 HOO
  have hd : decide ((n : Int) ≤ (I' : Int)) = false := by simp; omega
  have HQ := fun j => HIS.out (w2.drewN j) (Z2.out.keep (below_drewN (Below.refl _ _) (Nat.le_refl _)))
  go_wp2
  go_quiet (first | (go_at_call 48; exact Calls.quiet_of (HQ _)))
  obtain ⟨w3, hw3⟩ : ∃ w3, w3 = w2.drewN nq := ⟨_, rfl⟩
  rw [← hw3]
  have O3 := Lib.hid (show OI w3 w.heap.size (.slice A m k) m l by rw [hw3]; exact O2.out.below (below_drewN (Below.refl _ _) (Nat.le_refl _)))
  have F3 := Lib.hid (show Fr (fun k => k = R) w w3 by rw [hw3]; exact F2.out.drewN _)
  have Z3 := Lib.hid (show RZ w3 R g T n c I' E d 0 0 by rw [hw3]; exact Z2.out.keep (below_drewN (Below.refl _ _) (Nat.le_refl _)))
  clear hw3 u0 u1 u5 HQ hd
  go_wp2_with fail
  refine (HV2.out _ Z3.out).mono ?_
  rintro e w4 ⟨rfl, j4, e4⟩
  have O4 := Lib.hid (show OI w4 w.heap.size (.slice A m k) m l by rw [e4]; exact O3.out.below (below_drewN (Below.refl _ _) (Nat.le_refl _)))
  have F4 := Lib.hid (show Fr (fun k => k = R) w w4 by rw [e4]; exact F3.out.drewN _)
  have Z4 := Lib.hid (show RZ w4 R g T n c I' E d 0 0 by rw [e4]; exact Z3.out.keep (below_drewN (Below.refl _ _) (Nat.le_refl _)))
  clear e4 HV2
  go_wp2_with fail
  refine (no_any _ R g n c I' T E d 0 0 46 Z4.out).mono ?_
  rintro e w5 ⟨rfl, z5, f5⟩
  rw [HPL.out] at z5
  have Z5 := Lib.hid z5
  have F5 := Lib.hid (F4.out.trans f5)
  clear z5 f5
  go_wp2
  refine bodyPost_ret (v := .slice none 0 0) (by simp [results, Tryd.results70, go_sem]) rfl ?_
  exact ⟨none, 0, 0, [], rfl, OI.nil _ _, F5.out, Nat.zero_le _, I', pa, 46, Z5.out, K2.out.1, rfl, rfl, rfl⟩
set_option maxRecDepth 100000 in
set_option maxHeartbeats 1600000 in
theorem expr_o5 (w : World) (R g n c I : Nat) (T : List Tk) (E : Int) (d : Nat) (h : RZ w R g T n c I E d 0 0) (hlg : g < w.heap.size) (hn7 : n ≤ 1000000) (hT : LT T) (hId : I + d ≤ n + 32) (hIn : I ≤ n) (hv : ¬ (I < n ∧ vb (T.getD I default).w = true)) (J : Nat) (hJle : J ≤ n) (left : List It) (HO : ∀ W : World, RZ W R g T n c I E d 0 0 → g < W.heap.size → Calls Tryd.prog 84 #[.pointer (some ⟨R, 0, none⟩)] W (ExAns W R g T n c I E d (.ok left (tl T E J)))) (hJn : J < n) (hw : ¬ (T.getD J default).w = [41]) (hvj : vb (T.getD J default).w = true) (x : Int × Int) (hx : x = phR (T.getD J default).w true (mk (tl T E (J + 1))).1) (h0 : x.2 = 0) : Calls Tryd.prog 70 #[.pointer (some ⟨R, 0, none⟩)] w (ExAns w R g T n c I E d (.err (T.getD J default).a 43)) := by
  have hRl := h.lt
  have HV := Lib.hid (verb04_any w R g n c I T E d 0 0 h false (fun a b => by rw [hT.k2 _ (getD_mem (by rw [h.hn]; exact a)) b]; exact vb_nil) (by symm; exact decide_eq_false hv))
  have HZ := Lib.hid h
  have HOO := Lib.hid HO
  have HB := Lib.hid (And.intro hlg (And.intro hId (And.intro hIn h.hn)))
  have HIS := Lib.hid (fun (W : World) (hW : RZ W R g T n c J E d 0 0) => (show Calls Tryd.prog 48 #[.pointer (some ⟨R, 0, none⟩), .string ⟨#[41]⟩] W (fun e w' => e = .returned (.bool false) ∧ ∃ j, w' = W.drewN j) from is_any W R g n c J T E d 0 0 hW [41] false (fun a b => hT.kw _ (getD_mem (by rw [h.hn]; exact a)) (by rw [b]; decide)) (by symm; exact decide_eq_false (fun a => hw a.2))))
  have HV2 := Lib.hid (fun (W : World) (hW : RZ W R g T n c J E d 0 0) => verb04_any W R g n c J T E d 0 0 hW true (fun a b => by rw [hT.k2 _ (getD_mem (by rw [h.hn]; exact a)) b]; exact vb_nil) (by symm; exact decide_eq_true ⟨hJn, hvj⟩))
  have HP := Lib.hid (fun (W : World) (hZ : RZ W R g T n c J E d 0 0) (hg : g < W.heap.size) => phrase_no W R g n c J T E d hZ hg hJn hn7 hT true x hx h0)
  obtain ⟨pa, hpa⟩ : ∃ pa, pa = (T.getD J default).a := ⟨_, rfl⟩
  rw [← hpa] at HP ⊢
  clear hw hvj hpa hx h0
  clear h hv hT hlg hId hIn HO
  go_enter Tryd.func70, Tryd.ntmps70
  go_wp2_with fail
  refine HV.out.mono ?_
  rintro e w1 ⟨rfl, j1, e1⟩
  have Z1 := Lib.hid (show RZ w1 R g T n c I E d 0 0 by rw [e1]; exact HZ.out.keep (below_drewN (Below.refl _ _) (Nat.le_refl _)))
  have F1 := Lib.hid (show Fr (fun k => k = R) w w1 by rw [e1]; exact (Fr.refl _ _).drewN j1)
  clear e1 HV
  go_wp2_with fail
  refine (HOO.out _ Z1.out (Nat.lt_of_lt_of_le HB.out.1 F1.out.size)).mono ?_
  rintro e w2 ⟨A, m, k, l, rfl, o2, f2, hm2, I', fa, fc, z2, hI', ok2⟩
  obtain ⟨rfl, rfl, rfl, hIJ, hI'n, htl, hmJ⟩ := ok2
  obtain rfl : I' = J := tl_inj HB.out.2.2.2 htl hI'n hJle
  have K2 := Lib.hid (And.intro hI' (And.intro hm2 hmJ))
  clear htl hI' hmJ
  have O2 := Lib.hid (o2.base (B' := w.heap.size) F1.out.size)
  have F2 := Lib.hid (F1.out.trans f2)
  have Z2 := Lib.hid z2
  obtain ⟨c0, c1, -, -, -, c5⟩ := z2.c0
  have u0 := fun j => (show (w2.drewN j).cell? ⟨R, 0, none⟩ = some (.slice (some ⟨g, 0, none⟩) n c) from c0)
  have u1 := fun j => (show (w2.drewN j).cell? ⟨R, 1, none⟩ = some (.int .i64 I') from c1)
  have u5 := fun j => (show (w2.drewN j).cell? ⟨R, 5, none⟩ = some (.int .i64 0) from c5)
  clear o2 f2 z2 c0 c1 c5 HOO
  have hd : decide ((n : Int) ≤ (I' : Int)) = false := by simp; omega
  have HQ := fun j => HIS.out (w2.drewN j) (Z2.out.keep (below_drewN (Below.refl _ _) (Nat.le_refl _)))
  go_wp2
  go_quiet (first | (go_at_call 48; exact Calls.quiet_of (HQ _)))
  obtain ⟨w3, hw3⟩ : ∃ w3, w3 = w2.drewN nq := ⟨_, rfl⟩
  rw [← hw3]
  have O3 := Lib.hid (show OI w3 w.heap.size (.slice A m k) m l by rw [hw3]; exact O2.out.below (below_drewN (Below.refl _ _) (Nat.le_refl _)))
  have F3 := Lib.hid (show Fr (fun k => k = R) w w3 by rw [hw3]; exact F2.out.drewN _)
  have Z3 := Lib.hid (show RZ w3 R g T n c I' E d 0 0 by rw [hw3]; exact Z2.out.keep (below_drewN (Below.refl _ _) (Nat.le_refl _)))
  clear hw3 u0 u1 u5 HQ hd
  go_wp2_with fail
  refine (HV2.out _ Z3.out).mono ?_
  rintro e w4 ⟨rfl, j4, e4⟩
  have O4 := Lib.hid (show OI w4 w.heap.size (.slice A m k) m l by rw [e4]; exact O3.out.below (below_drewN (Below.refl _ _) (Nat.le_refl _)))
  have F4 := Lib.hid (show Fr (fun k => k = R) w w4 by rw [e4]; exact F3.out.drewN _)
  have Z4 := Lib.hid (show RZ w4 R g T n c I' E d 0 0 by rw [e4]; exact Z3.out.keep (below_drewN (Below.refl _ _) (Nat.le_refl _)))
  clear e4 HV2
  go_wp2_with fail
  refine (HP.out _ Z4.out (Nat.lt_of_lt_of_le HB.out.1 F4.out.size)).mono ?_
  rintro e w5 ⟨⟨x1, x2, x3, rfl⟩, z5, f5⟩
  have Z5 := Lib.hid z5
  have F5 := Lib.hid (F4.out.trans f5)
  obtain ⟨-, -, -, -, -, c5⟩ := z5.c0
  have hR5 := z5.lt
  clear z5 f5 HP
  unfold phV
  go_wp2
  refine bodyPost_ret (v := .slice none 0 0) (by simp [results, Tryd.results70, go_sem]) rfl ?_
  have hz := F5.out.size
  exact ⟨none, 0, 0, [], rfl, OI.nil _ _, F5.out.alloc _, Nat.zero_le _, I', pa, 43, Z5.out.up _, K2.out.1, rfl, rfl, rfl⟩
set_option maxRecDepth 100000 in
set_option maxHeartbeats 1600000 in
theorem expr_o6 (w : World) (R g n c I : Nat) (T : List Tk) (E : Int) (d : Nat) (h : RZ w R g T n c I E d 0 0) (hlg : g < w.heap.size) (hn7 : n ≤ 1000000) (hT : LT T) (hId : I + d ≤ n + 32) (hIn : I ≤ n) (hv : ¬ (I < n ∧ vb (T.getD I default).w = true)) (J : Nat) (hJle : J ≤ n) (left : List It) (HO : ∀ W : World, RZ W R g T n c I E d 0 0 → g < W.heap.size → Calls Tryd.prog 84 #[.pointer (some ⟨R, 0, none⟩)] W (ExAns W R g T n c I E d (.ok left (tl T E J)))) (hJn : J < n) (hw : ¬ (T.getD J default).w = [41]) (hvj : vb (T.getD J default).w = true) (x : Int × Int) (hx : x = phR (T.getD J default).w true (mk (tl T E (J + 1))).1) (h0 : x.2 ≠ 0) (f : List Tk → Rx) (HX : ∀ (W : World) (J : Nat), I < J → J ≤ n → RZ W R g T n c J E d 0 0 → g < W.heap.size → Calls Tryd.prog 70 #[.pointer (some ⟨R, 0, none⟩)] W (ExAns W R g T n c J E d (f (tl T E J)))) : Calls Tryd.prog 70 #[.pointer (some ⟨R, 0, none⟩)] w (ExAns w R g T n c I E d ((f (mk (tl T E (J + 1))).2).put left [⟨x.1, (T.getD J default).a, x.2, [], []⟩])) := by
  have hRl := h.lt
  have HV := Lib.hid (verb04_any w R g n c I T E d 0 0 h false (fun a b => by rw [hT.k2 _ (getD_mem (by rw [h.hn]; exact a)) b]; exact vb_nil) (by symm; exact decide_eq_false hv))
  have HZ := Lib.hid h
  have HOO := Lib.hid HO
  have HB := Lib.hid (And.intro hlg (And.intro hId (And.intro hIn h.hn)))
  have HIS := Lib.hid (fun (W : World) (hW : RZ W R g T n c J E d 0 0) => (show Calls Tryd.prog 48 #[.pointer (some ⟨R, 0, none⟩), .string ⟨#[41]⟩] W (fun e w' => e = .returned (.bool false) ∧ ∃ j, w' = W.drewN j) from is_any W R g n c J T E d 0 0 hW [41] false (fun a b => hT.kw _ (getD_mem (by rw [h.hn]; exact a)) (by rw [b]; decide)) (by symm; exact decide_eq_false (fun a => hw a.2))))
  have HV2 := Lib.hid (fun (W : World) (hW : RZ W R g T n c J E d 0 0) => verb04_any W R g n c J T E d 0 0 hW true (fun a b => by rw [hT.k2 _ (getD_mem (by rw [h.hn]; exact a)) b]; exact vb_nil) (by symm; exact decide_eq_true ⟨hJn, hvj⟩))
  have HP := Lib.hid (fun (W : World) (hZ : RZ W R g T n c J E d 0 0) (hg : g < W.heap.size) => phrase_yes W R g n c J T E d hZ hg hJn hn7 hT true x hx h0)
  obtain ⟨pa, hpa⟩ : ∃ pa, pa = (T.getD J default).a := ⟨_, rfl⟩
  rw [← hpa] at HP ⊢
  obtain ⟨x1, x2⟩ := x
  have HXX := Lib.hid HX
  clear hw hvj hpa hx h0 HX
  clear h hv hT hlg hId hIn HO
  go_enter Tryd.func70, Tryd.ntmps70
  go_wp2_with fail
  refine HV.out.mono ?_
  rintro e w1 ⟨rfl, j1, e1⟩
  have Z1 := Lib.hid (show RZ w1 R g T n c I E d 0 0 by rw [e1]; exact HZ.out.keep (below_drewN (Below.refl _ _) (Nat.le_refl _)))
  have F1 := Lib.hid (show Fr (fun k => k = R) w w1 by rw [e1]; exact (Fr.refl _ _).drewN j1)
  clear e1 HV
  go_wp2_with fail
  refine (HOO.out _ Z1.out (Nat.lt_of_lt_of_le HB.out.1 F1.out.size)).mono ?_
  rintro e w2 ⟨A, m, k, l, rfl, o2, f2, hm2, I', fa, fc, z2, hI', ok2⟩
  obtain ⟨rfl, rfl, rfl, hIJ, hI'n, htl, hmJ⟩ := ok2
  obtain rfl : I' = J := tl_inj HB.out.2.2.2 htl hI'n hJle
  have K2 := Lib.hid (And.intro hI' (And.intro hm2 hmJ))
  clear htl hI' hmJ
  have O2 := Lib.hid (o2.base (B' := w.heap.size) F1.out.size)
  have F2 := Lib.hid (F1.out.trans f2)
  have Z2 := Lib.hid z2
  obtain ⟨c0, c1, -, -, -, c5⟩ := z2.c0
  have u0 := fun j => (show (w2.drewN j).cell? ⟨R, 0, none⟩ = some (.slice (some ⟨g, 0, none⟩) n c) from c0)
  have u1 := fun j => (show (w2.drewN j).cell? ⟨R, 1, none⟩ = some (.int .i64 I') from c1)
  have u5 := fun j => (show (w2.drewN j).cell? ⟨R, 5, none⟩ = some (.int .i64 0) from c5)
  clear o2 f2 z2 c0 c1 c5 HOO
  have hd : decide ((n : Int) ≤ (I' : Int)) = false := by simp; omega
  have HQ := fun j => HIS.out (w2.drewN j) (Z2.out.keep (below_drewN (Below.refl _ _) (Nat.le_refl _)))
  go_wp2
  go_quiet (first | (go_at_call 48; exact Calls.quiet_of (HQ _)))
  obtain ⟨w3, hw3⟩ : ∃ w3, w3 = w2.drewN nq := ⟨_, rfl⟩
  rw [← hw3]
  have O3 := Lib.hid (show OI w3 w.heap.size (.slice A m k) m l by rw [hw3]; exact O2.out.below (below_drewN (Below.refl _ _) (Nat.le_refl _)))
  have F3 := Lib.hid (show Fr (fun k => k = R) w w3 by rw [hw3]; exact F2.out.drewN _)
  have Z3 := Lib.hid (show RZ w3 R g T n c I' E d 0 0 by rw [hw3]; exact Z2.out.keep (below_drewN (Below.refl _ _) (Nat.le_refl _)))
  clear hw3 u0 u1 u5 HQ hd
  go_wp2_with fail
  refine (HV2.out _ Z3.out).mono ?_
  rintro e w4 ⟨rfl, j4, e4⟩
  have O4 := Lib.hid (show OI w4 w.heap.size (.slice A m k) m l by rw [e4]; exact O3.out.below (below_drewN (Below.refl _ _) (Nat.le_refl _)))
  have F4 := Lib.hid (show Fr (fun k => k = R) w w4 by rw [e4]; exact F3.out.drewN _)
  have Z4 := Lib.hid (show RZ w4 R g T n c I' E d 0 0 by rw [e4]; exact Z3.out.keep (below_drewN (Below.refl _ _) (Nat.le_refl _)))
  clear e4 HV2
  go_wp2_with fail
  refine (HP.out _ Z4.out (Nat.lt_of_lt_of_le HB.out.1 F4.out.size)).mono ?_
  rintro e w5 ⟨rfl, f5, J2, hJ1, hJ2, hJ3, z5⟩
  have O5 := Lib.hid (O4.out.far f5 Z4.out.blk)
  have Z5 := Lib.hid z5
  have F5 := Lib.hid (F4.out.trans f5)
  have HJ := Lib.hid hJ3
  obtain ⟨-, -, -, -, -, c5⟩ := z5.c0
  have hR5 := z5.lt
  clear z5 f5 HP hJ3
  unfold phV
  go_wp2_with fail
  have HBX := Lib.hid (heap_alloc_new w5 (.cells #[.int .i64 x1, .int .i64 pa, .int .u8 x2, .string ⟨#[]⟩, .slice none 0 0] 52))
  have NB := Lib.hid (show (Value.slice A m k).ownBlock ≠ some w5.heap.size from fun e => by have := O5.out.lt e; omega)
  have O5' := Lib.hid (O5.out.below (up (.cells #[.int .i64 x1, .int .i64 pa, .int .u8 x2, .string ⟨#[]⟩, .slice none 0 0] 52)))
  refine (HXX.out _ J2 (Nat.lt_trans hIJ hJ1) hJ2 (Z5.out.up _) (by have := HB.out.1; have := F5.out.size; simp; omega)).mono ?_
  rintro e w6 ⟨A6, m6, k6, l6, rfl, o6, f6, hm6, I6, fa, fc, z6, hI6, ok6⟩
  have hb6 : w6.heap[w5.heap.size]? = _ := (f6.block w5.heap.size (by simp) (by omega)).trans HBX.out
  have O6 := Lib.hid o6
  have L6 := Lib.hid (O5'.out.far f6 (Z5.out.up _).blk)
  have F6 := Lib.hid ((F5.out.alloc _).trans f6)
  have Z6 := Lib.hid z6
  have K6 := Lib.hid (And.intro hI6 ok6)
  have hz5 := F5.out.size
  have hz6 : w5.heap.size + 1 ≤ w6.heap.size := by have := f6.size; simpa using this
  have hmm : m + m6 ≤ n - I := by have := K2.out.2.2; omega
  have hm5 : m + m6 ≤ 1000000 := by omega
  have hm7 : m + m6 + 1 ≤ 1000000 := by have := K2.out.2.2; omega
  have HBB := Lib.hid hb6
  have hl5 : w5.heap.size < w6.heap.size := by omega
  clear hb6 o6 f6 z6 hI6 ok6 HBX c5 O5' O5
  go_wp2_with (first
    | (at_builtin; refine append_own rfl (.tmp 65) (.tmp 66) rfl w.heap.size A m k l rfl L6.out _ A6 m6 k6 l6 rfl O6.out hm5 (by have := F6.out.size; omega) ?_; intro A7 k7 w7 h7 g7 r7; have H7 := Lib.hid h7; have G7 := Lib.hid g7; obtain ⟨b0, b1, b2, b3, b4⟩ := itOf_box ((r7 _ hl5 NB.out).trans HBB.out); have hl7 := (Nat.lt_of_lt_of_le hl5 g7.size); clear h7 g7 r7)
    | (at_builtin; refine append_items rfl (.tmp 68) (.tmp 70) rfl w.heap.size A7 (m + m6) k7 (l ++ l6) rfl (H7.out.below (up _)) w7.heap.size 0 1 1 rfl [itOf x1 pa x2] rfl (fun y hy => by simp at hy; subst hy; exact RdN.nil _ _ _) (newsN _ _ rfl #[.int .i64 x1, .int .i64 pa, .int .u8 x2, .string ⟨#[]⟩, .slice none 0 0] _) (by decide) hm7 (by have := F6.out.size; have := G7.out.size; simp; omega) ?_; intro A8 k8 w8 h8 g8 r8; have H8 := Lib.hid h8; have G8 := Lib.hid g8; clear h8 g8 r8))
  refine bodyPost_ret (v := .slice A8 (m + m6 + 1) k8) (by simp [results, Tryd.results70, go_sem]) rfl ?_
  have hR0 := HZ.out.lt
  refine ⟨A8, m + m6 + 1, k8, l ++ l6 ++ [⟨x1, pa, x2, [], []⟩], rfl, H8.out, ((F6.out.up G7.out).alloc _).up G8.out, by have := K2.out.2.2; omega, I6, fa, fc, ((Z6.out.at G7.out hR0 HB.out.1).up _).at G8.out hR0 HB.out.1, K6.out.1, ?_⟩
  have hq := K6.out.2.put l [⟨x1, pa, x2, [], []⟩] (I := I) (by have := K2.out.2.2; have := O2.out.len; simp; omega) (by omega)
  rw [HJ.out, O2.out.len] at hq
  exact hq
end Go.Proofs.YthdognmppbckbaaDoor
