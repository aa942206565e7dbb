/- The walk of ParseReads. -/
import Derived.Test.YthdognmppbckbaaDoorZPz
import Derived.Test.YthdognmppbckbaaDoorZPm
import Derived.Test.YthdognmppbckbaaDoorZPf
namespace Go.Proofs.YthdognmppbckbaaDoor.parseReads
open Go.RowKit
set_option linter.unusedVariables false

theorem ref_is (s : ByteArray) (w : World) (p : Pg) (n m : Nat) (hx : parseR s.data.toList = .ok p) (hn : p.ins.length = n) (hm : p.lns.length = m) (hs : s.size ≤ 140737488355328) : Calls Tryd.prog 13 #[.string s] w (ParOk w p n m) := by
  refine (parse04_any s w hs).mono fun e w' ⟨xs, ls, vi, vl, he, hp, hv, hb⟩ => ?_
  rw [hx] at he hp
  obtain ⟨Ai, ci, rfl, h1⟩ := row_shape hv.owi
  obtain ⟨Al, cl, rfl, h2⟩ := row_shape hv.owl
  have hr := hv.read
  rw [hp] at hr
  have e1 : xs.length = n := by rw [← hn]; have := congrArg (fun p : Pg => p.ins.length) hp; simpa [pgOf, Pr.pg] using this
  have e2 : ls.length = m := by rw [← hm]; have := congrArg (fun p : Pg => p.lns.length) hp; simpa [pgOf, Pr.pg] using this
  rw [e1] at he h1
  rw [e2] at he h2
  exact ⟨Ai, ci, Al, cl, he, hr, hb, h1, h2⟩
theorem ref_no (s : ByteArray) (w : World) (a c : Int) (hx : parseR s.data.toList = .err a c) (hs : s.size ≤ 140737488355328) : Calls Tryd.prog 13 #[.string s] w (ParErr w a c) := by
  refine (parse04_any s w hs).mono fun e w' ⟨xs, ls, vi, vl, he, hp, hv, hb⟩ => ?_
  rw [hx] at he hp
  obtain ⟨Ai, ci, rfl, h1⟩ := row_shape hv.owi
  obtain ⟨Al, cl, rfl, h2⟩ := row_shape hv.owl
  have e1 : xs.length = 0 := by have := congrArg (fun p : Pg => p.ins.length) hp; simpa [pgOf, Pr.pg] using this
  have e2 : ls.length = 0 := by have := congrArg (fun p : Pg => p.lns.length) hp; simpa [pgOf, Pr.pg] using this
  rw [e1, e2] at he
  exact ⟨Ai, ci, Al, cl, he, hb⟩
set_option maxRecDepth 100000 in
set_option maxHeartbeats 1600000 in
theorem walk_ok (s : ByteArray) (hs : s.size ≤ 140737488355320) (w : World) (hL : LaidP w) (p : Pg) (h : parseR s.data.toList = .ok p) : Calls Tryd.prog 3 #[.string s] w fun e w' => e = .returned (.bool true) ∧ Below w.heap.size w w' := by
  have HX := Lib.hid h
  obtain ⟨N, hN⟩ : ∃ N, N = p.ins.length := ⟨_, rfl⟩
  obtain ⟨M, hM⟩ : ∃ M, M = p.lns.length := ⟨_, rfl⟩
  have hpg := (pz_flat h).1
  have hbd := pz_bd h
  have hc := hpg.cnt
  have HZ := Lib.hid (And.intro hN.symm (And.intro hM.symm (And.intro hbd (And.intro (show N ≤ 100 by omega) (And.intro (show M ≤ 100 by omega) (show ∀ x ∈ p.ins, x.sd.length ≤ 4 from fun x hx => (hpg.ins x hx).2))))))
  clear h hpg hbd hc hN hM
  go_enter Tryd.func3, Tryd.ntmps3
  go_wp2_with fail
  refine (shown4_any _ hL).mono ?_
  rintro e W1 ⟨rfl, b1⟩
  have B := Lib.hid b1
  clear b1
  go_wp2_with fail
  refine (parse_is s _ p N M HX.out HZ.out.1 HZ.out.2.1 (hL.below B.out) (by omega)).mono ?_
  rintro e W3 ⟨Ai3, ci3, Al3, cl3, rfl, hr3, b3, _, _⟩
  have hu3 := up2 b3 (pfw_bel W3 Ai3 N ci3 Al3 M cl3 0 0)
  have F3 := Lib.hid (PFAt.new W3 Ai3 N ci3 Al3 M cl3 0 0)
  have B3 := Lib.hid (up2 B.out hu3)
  have R3 := Lib.hid (hr3.below (pfw_bel W3 Ai3 N ci3 Al3 M cl3 0 0))
  clear hu3 b3 hr3
  go_wp2_with fail
  refine (ref_is s _ p N M HX.out HZ.out.1 HZ.out.2.1 (by omega)).mono ?_
  rintro e W4 ⟨Ai4, ci4, Al4, cl4, rfl, hr4, b4, _, _⟩
  have hu4 := up2 b4 (pfw_bel W4 Ai4 N ci4 Al4 M cl4 0 0)
  have F4 := Lib.hid (PFAt.new W4 Ai4 N ci4 Al4 M cl4 0 0)
  have B4 := Lib.hid (up2 B3.out hu4)
  have R4 := Lib.hid (And.intro (R3.out.below hu4) (hr4.below (pfw_bel W4 Ai4 N ci4 Al4 M cl4 0 0)))
  obtain ⟨f0, f1, f2, f3, f4⟩ := F3.out.below hu4
  obtain ⟨k0, k1, k2, k3, k4⟩ := F4.out
  unfold pfW at f0 f1 f2 f3 f4 k0 k1 k2 k3 k4
  clear hu4 b4 hr4
  go_wp2_with fail
  refine (same04_any Ai3 Al3 Ai4 Al4 ci3 cl3 ci4 cl4 N M p _ HZ.out.1 HZ.out.2.1 R4.out.1 R4.out.2 HZ.out.2.2.1 HZ.out.2.2.2.1 HZ.out.2.2.2.2.1 HZ.out.2.2.2.2.2).mono ?_
  rintro e W5 ⟨rfl, b5⟩
  have B5 := Lib.hid (up2 B4.out b5)
  clear b5
  go_wp2
  go_ret
  exact ⟨rfl, B5.out⟩
set_option maxRecDepth 100000 in
set_option maxHeartbeats 1600000 in
theorem walk_err (s : ByteArray) (hs : s.size ≤ 140737488355320) (w : World) (hL : LaidP w) (a c : Int) (h : parseR s.data.toList = .err a c) : Calls Tryd.prog 3 #[.string s] w fun e w' => e = .returned (.bool true) ∧ Below w.heap.size w w' := by
  have HX := Lib.hid h
  have ha : (a == a) = true := beq_self_eq_true _
  have hc : (c == c) = true := beq_self_eq_true _
  clear h
  go_enter Tryd.func3, Tryd.ntmps3
  go_wp2_with fail
  refine (shown4_any _ hL).mono ?_
  rintro e W1 ⟨rfl, b1⟩
  have B := Lib.hid b1
  clear b1
  go_wp2_with fail
  refine (parse_no s _ a c HX.out (hL.below B.out) (by omega)).mono ?_
  rintro e W3 ⟨Ai3, ci3, Al3, cl3, rfl, b3⟩
  have hu3 := up2 b3 (pfw_bel W3 Ai3 0 ci3 Al3 0 cl3 a c)
  have F3 := Lib.hid (PFAt.new W3 Ai3 0 ci3 Al3 0 cl3 a c)
  have B3 := Lib.hid (up2 B.out hu3)
  clear hu3 b3
  go_wp2_with fail
  refine (ref_no s _ a c HX.out (by omega)).mono ?_
  rintro e W4 ⟨Ai4, ci4, Al4, cl4, rfl, b4⟩
  have hu4 := up2 b4 (pfw_bel W4 Ai4 0 ci4 Al4 0 cl4 a c)
  have F4 := Lib.hid (PFAt.new W4 Ai4 0 ci4 Al4 0 cl4 a c)
  have B4 := Lib.hid (up2 B3.out hu4)
  obtain ⟨f0, f1, f2, f3, f4⟩ := F3.out.below hu4
  obtain ⟨k0, k1, k2, k3, k4⟩ := F4.out
  unfold pfW at f0 f1 f2 f3 f4 k0 k1 k2 k3 k4
  clear hu4 b4
  go_wp2_with fail
  refine (same04_any Ai3 Al3 Ai4 Al4 ci3 cl3 ci4 cl4 0 0 ⟨[], []⟩ _ rfl rfl ⟨fun h => absurd h (by decide), fun h => absurd h (by decide)⟩ ⟨fun h => absurd h (by decide), fun h => absurd h (by decide)⟩ ⟨fun m hm => (by cases hm), fun m hm => (by cases hm)⟩ (by omega) (by omega) (fun x hx => by cases hx)).mono ?_
  rintro e W5 ⟨rfl, b5⟩
  have B5 := Lib.hid (up2 B4.out b5)
  clear b5
  go_wp2
  go_ret
  exact ⟨rfl, B5.out⟩
theorem walk (s : ByteArray) (hs : s.size ≤ 140737488355320) (w : World) (hL : LaidP w) : Calls Tryd.prog 3 #[.string s] w fun e w' => e = .returned (.bool true) ∧ Below w.heap.size w w' := by
  cases h : parseR s.data.toList with
  | ok p => exact walk_ok s hs w hL p h
  | err a c => exact walk_err s hs w hL a c h
end Go.Proofs.YthdognmppbckbaaDoor.parseReads
