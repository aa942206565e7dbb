/- The walk of ShowReads. -/
import Derived.Test.YtbapgdhcbfpdoaaDoorZSp
namespace Go.Proofs.YtbapgdhcbfpdoaaDoor.showReads
open Go.RowKit
set_option linter.unusedVariables false
set_option maxRecDepth 100000
set_option maxHeartbeats 3200000 in
theorem walk_err (s : ByteArray) (hs : s.size ≤ 140737488355320) (w : World) (hL : LaidP w) (a c : Int) (hx : parseR s.data.toList = .err a c) : Calls Tryd.prog 4 #[.string s] w (fun e w' => e = .returned (.bool true) ∧ Below w.heap.size w w') := by
  have HX := Lib.hid hx
  have hc0 : c ≠ 0 := by have := (pz_err hx).2; omega
  have hf := fun w => fne a c hc0 w
  clear hx hc0
  go_enter Tryd.func4, Tryd.ntmps4
  go_wp2_with fail
  refine (shown5_any _ hL).mono ?_
  rintro e W1 ⟨rfl, b1⟩
  have B1 := Lib.hid (And.intro b1 (hL.below b1))
  clear b1
  go_wp2_with fail
  refine (parse_no s _ a c HX.out B1.out.2 (by omega)).mono ?_
  rintro e W2 ⟨Ai, ci, Al, cl, rfl, b2⟩
  have hu := two_up2 b2 (pfw_bel W2 Ai 0 ci Al 0 cl a c)
  have P2 := Lib.hid (BP.none (w0 := w) (Ai := Ai) (Al := Al) (ci := ci) (cl := cl) (a := a) (c := c) (two_up2 B1.out.1 b2) (B1.out.2.below b2))
  obtain ⟨f0, f1, f2, f3, f4⟩ := PFAt.new W2 Ai 0 ci Al 0 cl a c
  have hW := Lib.hid (show pfW W2 Ai 0 ci Al 0 cl a c = (W2.alloc (.cells #[.slice Ai 0 ci, .slice Al 0 cl] 25)).alloc (.cells #[.int .i64 a, .int .i64 c] 32) from rfl)
  rw [hW.out] at f0 f1 f2 f3
  clear hu b2 f4
  go_wp2_with fail
  rw [← hW.out]
  refine (right5_any _ ⟨[], []⟩ Ai Al 0 ci 0 cl P2.out.la P2.out.pa).mono ?_
  rintro e W3 ⟨rfl, b3⟩
  rw [show rightP ⟨[], []⟩ = false from rfl]
  have P3 := Lib.hid (P2.out.next b3)
  clear b3 f0 f1 f2 f3
  go_wp2
  go_ret
  exact ⟨rfl, P3.out.bel⟩
set_option maxHeartbeats 3200000 in
theorem walk_long (s : ByteArray) (hs : s.size ≤ 140737488355320) (w : World) (hL : LaidP w) (p : Pg) (hx : parseR s.data.toList = .ok p) (u : List UInt8) (h1 : textP p = some u) (h2 : showP p = ([], 30)) : Calls Tryd.prog 4 #[.string s] w (fun e w' => e = .returned (.bool true) ∧ Below w.heap.size w w') := by
  have HQP := Lib.hid hx
  have HX := Lib.hid h2
  have HR := Lib.hid (right_is h1)
  have hf := fun w => fne0 w
  clear hx h1 h2
  go_enter Tryd.func4, Tryd.ntmps4
  go_wp2_with fail
  refine (shown5_any _ hL).mono ?_
  rintro e W1 ⟨rfl, b1⟩
  have B1 := Lib.hid (And.intro b1 (hL.below b1))
  clear b1
  go_wp2_with fail
  refine (parse_is s _ p _ _ HQP.out rfl rfl B1.out.2 (by omega)).mono ?_
  rintro e W2 ⟨AP, cP, EP, dP, rfl, hr, b2, hci, hck⟩
  have hu := two_up2 b2 (pfw_bel W2 AP p.ins.length cP EP p.lns.length dP 0 0)
  have P2 := Lib.hid (BP.read (w0 := w) HQP.out rfl rfl hr hci hck (two_up2 B1.out.1 b2) (B1.out.2.below b2))
  obtain ⟨f0, f1, f2, f3, f4⟩ := PFAt.new W2 AP p.ins.length cP EP p.lns.length dP 0 0
  have hW2 := Lib.hid (show pfW W2 AP p.ins.length cP EP p.lns.length dP 0 0 = (W2.alloc (.cells #[.slice AP p.ins.length cP, .slice EP p.lns.length dP] 25)).alloc (.cells #[.int .i64 0, .int .i64 0] 32) from rfl)
  rw [hW2.out] at f0 f1 f2 f3
  clear hu b2 hr f4
  go_wp2_with fail
  rw [← hW2.out]
  refine (show5_any _ p AP EP _ cP _ dP P2.out.la P2.out.pa).mono ?_
  rintro e W3 ⟨rfl, b3⟩
  rw [HX.out]
  have P3 := Lib.hid (P2.out.next b3)
  clear b3 f0 f1 f2 f3
  have c0 := P3.out.c0
  have c1 := P3.out.c1
  go_wp2_with fail
  refine (right5_any _ p AP EP _ cP _ dP P3.out.la P3.out.pa).mono ?_
  rintro e W4 ⟨rfl, b4⟩
  rw [HR.out]
  have P4 := Lib.hid (P3.out.next b4)
  clear b4 c0 c1
  go_wp2
  go_ret
  exact ⟨rfl, P4.out.bel⟩
set_option maxHeartbeats 3200000 in
theorem walk_ok (s : ByteArray) (hs : s.size ≤ 140737488355320) (w : World) (hL : LaidP w) (p : Pg) (hx : parseR s.data.toList = .ok p) (u : List UInt8) (q : Pg) (h1 : textP p = some u) (hl : u.length ≤ 65536) (h2 : showP p = (u, 0)) (hq : parseR u = .ok q) (hz : zP q = zP p) (h3 : showP q = (u, 0)) : Calls Tryd.prog 4 #[.string s] w (fun e w' => e = .returned (.bool true) ∧ Below w.heap.size w w') := by
  have HQP := Lib.hid hx
  have HQQ := Lib.hid hq
  have HX := Lib.hid h2
  have HY := Lib.hid h3
  have HZ := Lib.hid hz
  have HR := Lib.hid (right_is h1)
  have hf := fun w => fne0 w
  have hg := fun w => feq0 w
  have hsz : (bs u).size ≤ 65536 := by rw [bs_size]; exact hl
  have hbb := beq_bytes u
  clear hx hq h1 h2 h3 hz hl
  go_enter Tryd.func4, Tryd.ntmps4
  go_wp2_with fail
  refine (shown5_any _ hL).mono ?_
  rintro e W1 ⟨rfl, b1⟩
  have B1 := Lib.hid (And.intro b1 (hL.below b1))
  clear b1
  go_wp2_with fail
  refine (parse_is s _ p _ _ HQP.out rfl rfl B1.out.2 (by omega)).mono ?_
  rintro e W2 ⟨AP, cP, EP, dP, rfl, hr, b2, hci, hck⟩
  have hu := two_up2 b2 (pfw_bel W2 AP p.ins.length cP EP p.lns.length dP 0 0)
  have P2 := Lib.hid (BP.read (w0 := w) HQP.out rfl rfl hr hci hck (two_up2 B1.out.1 b2) (B1.out.2.below b2))
  obtain ⟨f0, f1, f2, f3, f4⟩ := PFAt.new W2 AP p.ins.length cP EP p.lns.length dP 0 0
  have hW2 := Lib.hid (show pfW W2 AP p.ins.length cP EP p.lns.length dP 0 0 = (W2.alloc (.cells #[.slice AP p.ins.length cP, .slice EP p.lns.length dP] 25)).alloc (.cells #[.int .i64 0, .int .i64 0] 32) from rfl)
  rw [hW2.out] at f0 f1 f2 f3
  clear hu b2 hr f4
  go_wp2_with fail
  rw [← hW2.out]
  refine (show5_any _ p AP EP _ cP _ dP P2.out.la P2.out.pa).mono ?_
  rintro e W3 ⟨rfl, b3⟩
  rw [HX.out]
  have P3 := Lib.hid (P2.out.next b3)
  clear b3 f0 f1 f2 f3
  go_wp2_with fail
  refine (parse_is (bs u) _ q _ _ (by rw [bs_list]; exact HQQ.out) rfl rfl (And.intro P3.out.bel P3.out.la).2 (by omega)).mono ?_
  rintro e W4 ⟨AQ, cQ, EQ, dQ, rfl, hr, b4, hci, hck⟩
  have hu := two_up2 b4 (pfw_bel W4 AQ q.ins.length cQ EQ q.lns.length dQ 0 0)
  have Q4 := Lib.hid (BP.read (w0 := w) HQQ.out rfl rfl hr hci hck (two_up2 (And.intro P3.out.bel P3.out.la).1 b4) ((And.intro P3.out.bel P3.out.la).2.below b4))
  have P4 := Lib.hid (P3.out.next hu)
  obtain ⟨f0, f1, f2, f3, f4⟩ := PFAt.new W4 AQ q.ins.length cQ EQ q.lns.length dQ 0 0
  have hW4 := Lib.hid (show pfW W4 AQ q.ins.length cQ EQ q.lns.length dQ 0 0 = (W4.alloc (.cells #[.slice AQ q.ins.length cQ, .slice EQ q.lns.length dQ] 25)).alloc (.cells #[.int .i64 0, .int .i64 0] 32) from rfl)
  have k0 := P4.out.c0
  have k1 := P4.out.c1
  rw [hW4.out] at f0 f1 f2 f3 k0 k1
  clear hu b4 hr f4
  have k2 := Q4.out.c0
  have k3 := Q4.out.c1
  rw [hW4.out] at k2 k3
  go_wp2_with fail
  rw [← hW4.out]
  refine (show5_any _ q AQ EQ _ cQ _ dQ Q4.out.la Q4.out.pa).mono ?_
  rintro e W5 ⟨rfl, b5⟩
  rw [HY.out]
  have P5 := Lib.hid (P4.out.next b5)
  have Q5 := Lib.hid (Q4.out.next b5)
  have F4 := PFAt.new W4 AQ q.ins.length cQ EQ q.lns.length dQ 0 0
  have F5 := F4.below b5
  have HF5 := Lib.hid F5
  clear b5 f0 f1 f2 f3 k0 k1 k2 k3 F4 F5
  have k0 := P5.out.c0
  have k1 := P5.out.c1
  go_wp2_with fail
  refine (right5_any _ p AP EP _ cP _ dP P5.out.la P5.out.pa).mono ?_
  rintro e W6 ⟨rfl, b6⟩
  rw [HR.out]
  have P6 := Lib.hid (P5.out.next b6)
  have Q6 := Lib.hid (Q5.out.next b6)
  obtain ⟨_, _, f2, f3, _⟩ := HF5.out.below b6
  clear b6 k0 k1
  have k0 := P6.out.c0
  have k1 := P6.out.c1
  have j0 := Q6.out.c0
  have j1 := Q6.out.c1
  go_wp2_with fail
  refine (alike_pa P6.out.pa Q6.out.pa).mono ?_
  rintro e W7 ⟨rfl, b7⟩
  rw [decide_eq_true HZ.out.symm]
  have P7 := Lib.hid (P6.out.next b7)
  clear b7 k0 k1 j0 j1 f2 f3
  go_wp2
  go_ret
  exact ⟨rfl, P7.out.bel⟩
theorem walk (s : ByteArray) (hs : s.size ≤ 140737488355320) (w : World) (hL : LaidP w) : Calls Tryd.prog 4 #[.string s] w (fun e w' => e = .returned (.bool true) ∧ Below w.heap.size w w') := by
  cases hx : parseR s.data.toList with
  | err a c => exact walk_err s hs w hL a c hx
  | ok p =>
    have hr := pz_rng hx
    rcases read_show hx hr with ⟨u, h1, _, h2⟩ | ⟨u, q, h2, h3, h4, h5⟩
    · exact walk_long s hs w hL p hx u h1 h2
    · exact walk_ok s hs w hL p hx u q (showP_ok h2).1 (showP_ok h2).2 h2 h3 h4 h5
end Go.Proofs.YtbapgdhcbfpdoaaDoor.showReads
