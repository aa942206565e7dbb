/- The walk of ShowBack. -/
import Derived.Test.YtbapgdhcbfpdoaaDoorZSp
namespace Go.Proofs.YtbapgdhcbfpdoaaDoor.showBack
open Go.RowKit
set_option linter.unusedVariables false
set_option maxRecDepth 100000
set_option maxHeartbeats 3200000 in
theorem walk_none (w : World) (hL : LaidP w) (p : Pg) (Ai Al : Option Addr) (n ci m cl : Nat) (h : PA w p Ai Al n ci m cl) (h1 : textP p = none) (h2 : showP p = ([], 50)) : Calls Tryd.prog 3 #[pgV Ai n ci Al m cl] w (fun e w' => e = .returned (.bool true) ∧ Below w.heap.size w w') := by
  have HX := Lib.hid h2
  have HR := Lib.hid (right_no h1)
  have hb0 : ((bs []).toList == []) = true := cmpYes rfl
  clear h1 h2
  have P0 := Lib.hid (BP.start hL h)
  clear h hL
  go_enter Tryd.func3, Tryd.ntmps3
  go_wp2_with fail
  refine (shown5_any _ P0.out.la).mono ?_
  rintro e W1 ⟨rfl, b1⟩
  have P1 := Lib.hid (P0.out.next b1)
  clear b1
  have c0 := P1.out.c0
  have c1 := P1.out.c1
  go_wp2_with fail
  refine (show5_any _ p Ai Al n ci m cl P1.out.la P1.out.pa).mono ?_
  rintro e W2 ⟨rfl, b2⟩
  have P2 := Lib.hid (P1.out.next b2)
  clear b2
  clear c0 c1
  rw [HX.out]
  have c0 := P2.out.c0
  have c1 := P2.out.c1
  go_wp2_with fail
  refine (right5_any _ p Ai Al n ci m cl P2.out.la P2.out.pa).mono ?_
  rintro e W3 ⟨rfl, b3⟩
  have P3 := Lib.hid (P2.out.next b3)
  clear b3
  clear c0 c1
  rw [HR.out]
  go_wp2
  go_ret
  exact ⟨rfl, P3.out.bel⟩
set_option maxHeartbeats 3200000 in
theorem walk_long (w : World) (hL : LaidP w) (p : Pg) (Ai Al : Option Addr) (n ci m cl : Nat) (h : PA w p Ai Al n ci m cl) (s : List UInt8) (h1 : textP p = some s) (h2 : showP p = ([], 30)) : Calls Tryd.prog 3 #[pgV Ai n ci Al m cl] w (fun e w' => e = .returned (.bool true) ∧ Below w.heap.size w w') := by
  have HX := Lib.hid h2
  have HR := Lib.hid (right_is h1)
  have hb0 : ((bs []).toList == []) = true := cmpYes rfl
  clear h1 h2
  have P0 := Lib.hid (BP.start hL h)
  clear h hL
  go_enter Tryd.func3, Tryd.ntmps3
  go_wp2_with fail
  refine (shown5_any _ P0.out.la).mono ?_
  rintro e W1 ⟨rfl, b1⟩
  have P1 := Lib.hid (P0.out.next b1)
  clear b1
  have c0 := P1.out.c0
  have c1 := P1.out.c1
  go_wp2_with fail
  refine (show5_any _ p Ai Al n ci m cl P1.out.la P1.out.pa).mono ?_
  rintro e W2 ⟨rfl, b2⟩
  have P2 := Lib.hid (P1.out.next b2)
  clear b2
  clear c0 c1
  rw [HX.out]
  have c0 := P2.out.c0
  have c1 := P2.out.c1
  go_wp2_with fail
  refine (right5_any _ p Ai Al n ci m cl P2.out.la P2.out.pa).mono ?_
  rintro e W3 ⟨rfl, b3⟩
  have P3 := Lib.hid (P2.out.next b3)
  clear b3
  clear c0 c1
  rw [HR.out]
  go_wp2
  go_ret
  exact ⟨rfl, P3.out.bel⟩
set_option maxHeartbeats 3200000 in
theorem walk_ok (w : World) (hL : LaidP w) (p : Pg) (Ai Al : Option Addr) (n ci m cl : Nat) (h : PA w p Ai Al n ci m cl) (s : List UInt8) (h1 : textP p = some s) (hs : s.length ≤ 65536) (h2 : showP p = (s, 0)) (q : Pg) (hq : parseR s = .ok q) (hz : zP q = zP p) : Calls Tryd.prog 3 #[pgV Ai n ci Al m cl] w (fun e w' => e = .returned (.bool true) ∧ Below w.heap.size w w') := by
  have HX := Lib.hid h2
  have HR := Lib.hid (right_is h1)
  have HQ := Lib.hid hq
  have HZ := Lib.hid hz
  have hsz : (bs s).size ≤ 65536 := by rw [bs_size]; exact hs
  have hf := fun w => feq0 w
  clear h1 h2 hq hz hs
  have P0 := Lib.hid (BP.start hL h)
  clear h hL
  go_enter Tryd.func3, Tryd.ntmps3
  go_wp2_with fail
  refine (shown5_any _ P0.out.la).mono ?_
  rintro e W1 ⟨rfl, b1⟩
  have P1 := Lib.hid (P0.out.next b1)
  clear b1
  have c0 := P1.out.c0
  have c1 := P1.out.c1
  go_wp2_with fail
  refine (show5_any _ p Ai Al n ci m cl P1.out.la P1.out.pa).mono ?_
  rintro e W2 ⟨rfl, b2⟩
  have P2 := Lib.hid (P1.out.next b2)
  clear b2
  clear c0 c1
  rw [HX.out]
  have c0 := P2.out.c0
  have c1 := P2.out.c1
  go_wp2_with fail
  refine (right5_any _ p Ai Al n ci m cl P2.out.la P2.out.pa).mono ?_
  rintro e W3 ⟨rfl, b3⟩
  have P3 := Lib.hid (P2.out.next b3)
  clear b3
  clear c0 c1
  rw [HR.out]
  go_wp2_with fail
  refine (parse_is (bs s) _ q _ _ (by rw [bs_list]; exact HQ.out) rfl rfl P3.out.la (by omega)).mono ?_
  rintro e W4 ⟨Aj, cj, Ak, ck, rfl, hr, b4, hcj, hck⟩
  have hu := two_up2 b4 (pfw_bel W4 Aj q.ins.length cj Ak q.lns.length ck 0 0)
  have Q4 := Lib.hid (BP.read (w0 := w) HQ.out rfl rfl hr hcj hck (two_up2 P3.out.bel b4) (P3.out.la.below b4))
  have P4 := Lib.hid (P3.out.next hu)
  obtain ⟨f0, f1, f2, f3, f4⟩ := PFAt.new W4 Aj q.ins.length cj Ak q.lns.length ck 0 0
  have hW := Lib.hid (show pfW W4 Aj q.ins.length cj Ak q.lns.length ck 0 0 = (W4.alloc (.cells #[.slice Aj q.ins.length cj, .slice Ak q.lns.length ck] 25)).alloc (.cells #[.int .i64 0, .int .i64 0] 32) from rfl)
  have c0 := P4.out.c0
  have c1 := P4.out.c1
  rw [hW.out] at f0 f1 f2 f3 c0 c1
  clear hu b4 hr f4
  go_wp2_with fail
  rw [← hW.out]
  refine (alike_pa P4.out.pa Q4.out.pa).mono ?_
  rintro e W5 ⟨rfl, b5⟩
  rw [decide_eq_true HZ.out.symm]
  have P5 := Lib.hid (P4.out.next b5)
  clear b5 f0 f1 f2 f3 c0 c1
  go_wp2
  go_ret
  exact ⟨rfl, P5.out.bel⟩
theorem walk (w : World) (hL : LaidP w) (p : Pg) (Ai Al : Option Addr) (n ci m cl : Nat) (h : PA w p Ai Al n ci m cl) : Calls Tryd.prog 3 #[pgV Ai n ci Al m cl] w (fun e w' => e = .returned (.bool true) ∧ Below w.heap.size w w') := by
  rcases showP_cases p with ⟨h1, h2⟩ | ⟨s, h1, h2, h3⟩ | ⟨s, h1, h2, h3⟩
  · exact walk_none w hL p Ai Al n ci m cl h h1 h2
  · exact walk_long w hL p Ai Al n ci m cl h s h1 h3
  · obtain ⟨q, hq, hz⟩ := show_back h1 h.pb.rng h2
    exact walk_ok w hL p Ai Al n ci m cl h s h1 h2 h3 q hq hz
end Go.Proofs.YtbapgdhcbfpdoaaDoor.showBack
