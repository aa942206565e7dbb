/- The walk of ShowUnlike. -/
import Derived.Test.YtbapgdhcbfpdoaaDoorZSp
namespace Go.Proofs.YtbapgdhcbfpdoaaDoor.showUnlike
open Go.RowKit
set_option linter.unusedVariables false
set_option maxRecDepth 100000
theorem bp_base {w w1 W : World} {k : Nat} {p : Pg} {Ai : Option Addr} {n ci : Nat} {Al : Option Addr} {m cl : Nat} (h : BP w1 k p Ai n ci Al m cl W) (hb : Below w.heap.size w w1) : BP w k p Ai n ci Al m cl W := ⟨h.c0, h.c1, h.lt, two_up2 hb h.bel, h.la, h.pa⟩
theorem beq_c {c : Int} (h : c = 50 ∨ c = 30) : (c == 0) = false ∧ (c != 0) = true := by rcases h with rfl | rfl <;> decide
theorem cmp_bs (s t : List UInt8) : ((bs s).toList == (bs t).toList) = decide (s = t) := by
  by_cases h : s = t
  · subst h; rw [decide_eq_true rfl]; exact beq_bytes s
  · rw [decide_eq_false h]; exact nbytes h
set_option maxHeartbeats 3200000 in
theorem walk_nn (w : World) (hL : LaidP w) (p : Pg) (Ai Al : Option Addr) (n ci m cl : Nat) (h : PA w p Ai Al n ci m cl) (q : Pg) (Bi Bl : Option Addr) (n2 di m2 dl : Nat) (g : PA w q Bi Bl n2 di m2 dl) (c d : Int) (hc : c = 50 ∨ c = 30) (hd : d = 50 ∨ d = 30) (hx : showP p = ([], c)) (hy : showP q = ([], d)) : Calls Tryd.prog 6 #[pgV Ai n ci Al m cl, pgV Bi n2 di Bl m2 dl] w (fun e w' => e = .returned (.bool true) ∧ Below w.heap.size w w') := by
  have HX := Lib.hid hx
  have HY := Lib.hid hy
  clear hx hy
  obtain ⟨x0, x1⟩ := beq_c hc
  obtain ⟨y0, y1⟩ := beq_c hd
  have hb0 : ((bs []).toList == []) = true := cmpYes rfl
  clear hc hd
  have hb0 := alloc_bel w (pgC Ai n ci Al m cl)
  have P0 := Lib.hid ((BP.start hL h).next (alloc_bel _ (pgC Bi n2 di Bl m2 dl)))
  have Q0 := Lib.hid (bp_base (BP.start (hL.below hb0) (g.below hb0)) hb0)
  have hsz : (w.alloc (pgC Ai n ci Al m cl)).heap.size = w.heap.size + 1 := by simp
  rw [hsz] at Q0
  clear h g hL hb0 hsz
  go_enter Tryd.func6, Tryd.ntmps6
  go_wp2_with fail
  refine (shown5_any _ P0.out.la).mono ?_
  rintro e W1 ⟨rfl, b1⟩
  have P1 := Lib.hid (P0.out.next b1)
  have Q1 := Lib.hid (Q0.out.next b1)
  clear b1
  have c0 := P1.out.c0
  have c1 := P1.out.c1
  go_wp2_with fail
  refine (show5_any _ p Ai Al n ci m cl P1.out.la P1.out.pa).mono ?_
  rintro e W2 ⟨rfl, b2⟩
  have P2 := Lib.hid (P1.out.next b2)
  have Q2 := Lib.hid (Q1.out.next b2)
  clear b2
  clear c0 c1
  rw [HX.out]
  have c0 := Q2.out.c0
  have c1 := Q2.out.c1
  go_wp2_with fail
  refine (show5_any _ q Bi Bl n2 di m2 dl Q2.out.la Q2.out.pa).mono ?_
  rintro e W3 ⟨rfl, b3⟩
  have P3 := Lib.hid (P2.out.next b3)
  have Q3 := Lib.hid (Q2.out.next b3)
  clear b3
  clear c0 c1
  rw [HY.out]
  go_wp2
  go_ret
  exact ⟨rfl, P3.out.bel⟩
set_option maxHeartbeats 3200000 in
theorem walk_ny (w : World) (hL : LaidP w) (p : Pg) (Ai Al : Option Addr) (n ci m cl : Nat) (h : PA w p Ai Al n ci m cl) (q : Pg) (Bi Bl : Option Addr) (n2 di m2 dl : Nat) (g : PA w q Bi Bl n2 di m2 dl) (c : Int) (t : List UInt8) (hc : c = 50 ∨ c = 30) (hx : showP p = ([], c)) (hy : showP q = (t, 0)) : Calls Tryd.prog 6 #[pgV Ai n ci Al m cl, pgV Bi n2 di Bl m2 dl] w (fun e w' => e = .returned (.bool true) ∧ Below w.heap.size w w') := by
  have HX := Lib.hid hx
  have HY := Lib.hid hy
  clear hx hy
  obtain ⟨x0, x1⟩ := beq_c hc
  have hb0 : ((bs []).toList == []) = true := cmpYes rfl
  clear hc
  have hb0 := alloc_bel w (pgC Ai n ci Al m cl)
  have P0 := Lib.hid ((BP.start hL h).next (alloc_bel _ (pgC Bi n2 di Bl m2 dl)))
  have Q0 := Lib.hid (bp_base (BP.start (hL.below hb0) (g.below hb0)) hb0)
  have hsz : (w.alloc (pgC Ai n ci Al m cl)).heap.size = w.heap.size + 1 := by simp
  rw [hsz] at Q0
  clear h g hL hb0 hsz
  go_enter Tryd.func6, Tryd.ntmps6
  go_wp2_with fail
  refine (shown5_any _ P0.out.la).mono ?_
  rintro e W1 ⟨rfl, b1⟩
  have P1 := Lib.hid (P0.out.next b1)
  have Q1 := Lib.hid (Q0.out.next b1)
  clear b1
  have c0 := P1.out.c0
  have c1 := P1.out.c1
  go_wp2_with fail
  refine (show5_any _ p Ai Al n ci m cl P1.out.la P1.out.pa).mono ?_
  rintro e W2 ⟨rfl, b2⟩
  have P2 := Lib.hid (P1.out.next b2)
  have Q2 := Lib.hid (Q1.out.next b2)
  clear b2
  clear c0 c1
  rw [HX.out]
  have c0 := Q2.out.c0
  have c1 := Q2.out.c1
  go_wp2_with fail
  refine (show5_any _ q Bi Bl n2 di m2 dl Q2.out.la Q2.out.pa).mono ?_
  rintro e W3 ⟨rfl, b3⟩
  have P3 := Lib.hid (P2.out.next b3)
  have Q3 := Lib.hid (Q2.out.next b3)
  clear b3
  clear c0 c1
  rw [HY.out]
  go_wp2
  go_ret
  exact ⟨rfl, P3.out.bel⟩
set_option maxHeartbeats 3200000 in
theorem walk_yn (w : World) (hL : LaidP w) (p : Pg) (Ai Al : Option Addr) (n ci m cl : Nat) (h : PA w p Ai Al n ci m cl) (q : Pg) (Bi Bl : Option Addr) (n2 di m2 dl : Nat) (g : PA w q Bi Bl n2 di m2 dl) (s : List UInt8) (d : Int) (hd : d = 50 ∨ d = 30) (hx : showP p = (s, 0)) (hy : showP q = ([], d)) : Calls Tryd.prog 6 #[pgV Ai n ci Al m cl, pgV Bi n2 di Bl m2 dl] w (fun e w' => e = .returned (.bool true) ∧ Below w.heap.size w w') := by
  have HX := Lib.hid hx
  have HY := Lib.hid hy
  clear hx hy
  obtain ⟨y0, y1⟩ := beq_c hd
  have hb0 : ((bs []).toList == []) = true := cmpYes rfl
  clear hd
  have hb0 := alloc_bel w (pgC Ai n ci Al m cl)
  have P0 := Lib.hid ((BP.start hL h).next (alloc_bel _ (pgC Bi n2 di Bl m2 dl)))
  have Q0 := Lib.hid (bp_base (BP.start (hL.below hb0) (g.below hb0)) hb0)
  have hsz : (w.alloc (pgC Ai n ci Al m cl)).heap.size = w.heap.size + 1 := by simp
  rw [hsz] at Q0
  clear h g hL hb0 hsz
  go_enter Tryd.func6, Tryd.ntmps6
  go_wp2_with fail
  refine (shown5_any _ P0.out.la).mono ?_
  rintro e W1 ⟨rfl, b1⟩
  have P1 := Lib.hid (P0.out.next b1)
  have Q1 := Lib.hid (Q0.out.next b1)
  clear b1
  have c0 := P1.out.c0
  have c1 := P1.out.c1
  go_wp2_with fail
  refine (show5_any _ p Ai Al n ci m cl P1.out.la P1.out.pa).mono ?_
  rintro e W2 ⟨rfl, b2⟩
  have P2 := Lib.hid (P1.out.next b2)
  have Q2 := Lib.hid (Q1.out.next b2)
  clear b2
  clear c0 c1
  rw [HX.out]
  have c0 := Q2.out.c0
  have c1 := Q2.out.c1
  go_wp2_with fail
  refine (show5_any _ q Bi Bl n2 di m2 dl Q2.out.la Q2.out.pa).mono ?_
  rintro e W3 ⟨rfl, b3⟩
  have P3 := Lib.hid (P2.out.next b3)
  have Q3 := Lib.hid (Q2.out.next b3)
  clear b3
  clear c0 c1
  rw [HY.out]
  go_wp2
  go_ret
  exact ⟨rfl, P3.out.bel⟩
set_option maxHeartbeats 3200000 in
theorem walk_yy (w : World) (hL : LaidP w) (p : Pg) (Ai Al : Option Addr) (n ci m cl : Nat) (h : PA w p Ai Al n ci m cl) (q : Pg) (Bi Bl : Option Addr) (n2 di m2 dl : Nat) (g : PA w q Bi Bl n2 di m2 dl) (s t : List UInt8) (hx : showP p = (s, 0)) (hy : showP q = (t, 0)) (D : Bool) (h1 : decide (s = t) = D) (h2 : decide (zP p = zP q) = D) : Calls Tryd.prog 6 #[pgV Ai n ci Al m cl, pgV Bi n2 di Bl m2 dl] w (fun e w' => e = .returned (.bool true) ∧ Below w.heap.size w w') := by
  have HX := Lib.hid hx
  have HY := Lib.hid hy
  clear hx hy
  have hcm := cmp_bs s t
  rw [h1] at hcm
  have HZ := Lib.hid h2
  clear h1 h2
  have hb0 := alloc_bel w (pgC Ai n ci Al m cl)
  have P0 := Lib.hid ((BP.start hL h).next (alloc_bel _ (pgC Bi n2 di Bl m2 dl)))
  have Q0 := Lib.hid (bp_base (BP.start (hL.below hb0) (g.below hb0)) hb0)
  have hsz : (w.alloc (pgC Ai n ci Al m cl)).heap.size = w.heap.size + 1 := by simp
  rw [hsz] at Q0
  clear h g hL hb0 hsz
  go_enter Tryd.func6, Tryd.ntmps6
  go_wp2_with fail
  refine (shown5_any _ P0.out.la).mono ?_
  rintro e W1 ⟨rfl, b1⟩
  have P1 := Lib.hid (P0.out.next b1)
  have Q1 := Lib.hid (Q0.out.next b1)
  clear b1
  have c0 := P1.out.c0
  have c1 := P1.out.c1
  go_wp2_with fail
  refine (show5_any _ p Ai Al n ci m cl P1.out.la P1.out.pa).mono ?_
  rintro e W2 ⟨rfl, b2⟩
  have P2 := Lib.hid (P1.out.next b2)
  have Q2 := Lib.hid (Q1.out.next b2)
  clear b2
  clear c0 c1
  rw [HX.out]
  have c0 := Q2.out.c0
  have c1 := Q2.out.c1
  go_wp2_with fail
  refine (show5_any _ q Bi Bl n2 di m2 dl Q2.out.la Q2.out.pa).mono ?_
  rintro e W3 ⟨rfl, b3⟩
  have P3 := Lib.hid (P2.out.next b3)
  have Q3 := Lib.hid (Q2.out.next b3)
  clear b3
  clear c0 c1
  rw [HY.out]
  have c0 := P3.out.c0
  have c1 := P3.out.c1
  have j0 := Q3.out.c0
  have j1 := Q3.out.c1
  go_wp2_with fail
  refine (alike_pa P3.out.pa Q3.out.pa).mono ?_
  rintro e W4 ⟨rfl, b4⟩
  rw [HZ.out]
  have P4 := Lib.hid (P3.out.next b4)
  clear b4 c0 c1 j0 j1
  cases D with
  | true =>
    go_wp2
    go_ret
    exact ⟨rfl, P4.out.bel⟩
  | false =>
    go_wp2
    go_ret
    exact ⟨rfl, P4.out.bel⟩
theorem cases2 (p : Pg) : (∃ c, (c = 50 ∨ c = 30) ∧ showP p = ([], c)) ∨ ∃ s, showP p = (s, 0) := by
  rcases showP_cases p with ⟨_, h⟩ | ⟨s, _, _, h⟩ | ⟨s, _, _, h⟩
  · exact .inl ⟨50, .inl rfl, h⟩
  · exact .inl ⟨30, .inr rfl, h⟩
  · exact .inr ⟨s, h⟩
theorem walk (w : World) (hL : LaidP w) (p : Pg) (Ai Al : Option Addr) (n ci m cl : Nat) (h : PA w p Ai Al n ci m cl) (q : Pg) (Bi Bl : Option Addr) (n2 di m2 dl : Nat) (g : PA w q Bi Bl n2 di m2 dl) : Calls Tryd.prog 6 #[pgV Ai n ci Al m cl, pgV Bi n2 di Bl m2 dl] w (fun e w' => e = .returned (.bool true) ∧ Below w.heap.size w w') := by
  rcases cases2 p with ⟨c, hc, hx⟩ | ⟨s, hx⟩ <;> rcases cases2 q with ⟨d, hd, hy⟩ | ⟨t, hy⟩
  · exact walk_nn w hL p Ai Al n ci m cl h q Bi Bl n2 di m2 dl g c d hc hd hx hy
  · exact walk_ny w hL p Ai Al n ci m cl h q Bi Bl n2 di m2 dl g c t hc hx hy
  · exact walk_yn w hL p Ai Al n ci m cl h q Bi Bl n2 di m2 dl g s d hd hx hy
  · refine walk_yy w hL p Ai Al n ci m cl h q Bi Bl n2 di m2 dl g s t hx hy _ rfl ?_
    have e := unlike hx hy h.pb.rng g.pb.rng
    by_cases h1 : s = t
    · rw [decide_eq_true h1, decide_eq_true (e.1 h1)]
    · rw [decide_eq_false h1, decide_eq_false (fun h2 => h1 (e.2 h2))]
end Go.Proofs.YtbapgdhcbfpdoaaDoor.showUnlike
