/- The walk of ShowTexts. -/
import Derived.Test.YtbapgdhcbfpdoaaGreatDoorYSp
import Derived.Test.YtbapgdhcbfpdoaaGreatDoorYRi
namespace Go.Proofs.YtbapgdhcbfpdoaaGreatDoor.showTexts
open Go.RowKit
set_option linter.unusedVariables false
set_option maxRecDepth 100000
set_option maxHeartbeats 3200000 in
theorem walk (w : World) (hL : LaidP w) (p : Pg) (Ai Al : Option Addr) (n ci m cl : Nat) (h : PA w p Ai Al n ci m cl) : Calls Tryz.prog 4 #[pgV Ai n ci Al m cl] w (fun e w' => e = .returned (.bool true) ∧ Below w.heap.size w w') := by
  obtain ⟨u, hu⟩ : ∃ u, u = (showP p).1 := ⟨_, rfl⟩
  obtain ⟨z, hz⟩ : ∃ z, z = (showP p).2 := ⟨_, rfl⟩
  have P0 := Lib.hid (BP.start hL h)
  have HU := Lib.hid (And.intro hu hz)
  clear h hL hu hz
  go_enter Tryz.func4, Tryz.ntmps4
  go_wp2_with fail
  refine (shown5_any _ P0.out.la).mono ?_
  rintro e W1 ⟨rfl, b1⟩
  have P1 := Lib.hid (P0.out.next b1)
  clear b1
  have c0 := P1.out.c0
  have c1 := P1.out.c1
  go_wp2_with fail
  refine (show5_any _ p Ai Al n ci m cl P1.out.la P1.out.pa).mono ?_
  rintro e W2 ⟨rfl, b2⟩
  have P2 := Lib.hid (P1.out.next b2)
  clear b2
  clear c0 c1
  rw [← HU.out.1, ← HU.out.2]
  have c0 := P2.out.c0
  have c1 := P2.out.c1
  go_wp2_with fail
  refine (rshow5_any _ p Ai Al n ci m cl P2.out.pa).mono ?_
  rintro e W3 ⟨rfl, b3⟩
  have P3 := Lib.hid (P2.out.next b3)
  clear b3
  clear c0 c1
  rw [← HU.out.1, ← HU.out.2]
  have hbb := beq_bytes u
  have hzz : (z == z) = true := beq_self_eq_true z
  go_wp2
  go_ret
  exact ⟨rfl, P3.out.bel⟩
end Go.Proofs.YtbapgdhcbfpdoaaGreatDoor.showTexts
