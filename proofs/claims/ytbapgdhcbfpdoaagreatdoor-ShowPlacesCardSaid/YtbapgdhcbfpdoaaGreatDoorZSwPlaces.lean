/- The walk of ShowPlaces. -/
import Derived.Test.YtbapgdhcbfpdoaaGreatDoorZRl
import Derived.Test.YtbapgdhcbfpdoaaGreatDoorZSp
import Derived.Test.YtbapgdhcbfpdoaaGreatDoorZSa
namespace Go.Proofs.YtbapgdhcbfpdoaaGreatDoor.showPlaces
open Go.RowKit
set_option linter.unusedVariables false
set_option maxRecDepth 100000
theorem bp_base5 {w w1 W : World} {k : Nat} {p : Pg} {Ai : Option Addr} {n ci : Nat} {Al : Option Addr} {m cl : Nat} (h : BP w1 k p Ai n ci Al m cl W) (hb : Below w.heap.size w w1) : BP w k p Ai n ci Al m cl W := ⟨h.c0, h.c1, h.lt, two_up2 hb h.bel, h.la, h.pa⟩
/-- What the loops have found. -/
structure Few (p : Pg) (i : Nat) : Prop where
  its : ∀ j, j < i → (p.lns.getD j default).its.length ≤ 1000
  ns : ∀ j, j < i → ∀ y ∈ (p.lns.getD j default).its, y.ns.length ≤ 1000
theorem walk_big (w : World) (hL : LaidP w) (p : Pg) (Ai Al : Option Addr) (n ci m cl : Nat) (h : PA w p Ai Al n ci m cl) (hbig : 100 < n ∨ 100 < m) : Calls Tryz.prog 5 #[pgV Ai n ci Al m cl] w (fun e w' => e = .returned (.bool true) ∧ Below w.heap.size w w') := by
  have P0 := Lib.hid (BP.start hL h)
  have hs := h.hs
  clear h hL
  go_enter Tryz.func5, Tryz.ntmps5
  go_wp2_with fail
  refine (shown5_any _ P0.out.la).mono ?_
  rintro e W1 ⟨rfl, b1⟩
  have P1 := Lib.hid (P0.out.next b1)
  clear b1
  have c0 := P1.out.c0
  have c1 := P1.out.c1
  by_cases h1 : 100 < n
  · have h2 : decide ((100 : Int) < (n : Int)) = true := decide_eq_true (by omega)
    clear hbig h1
    go_wp2
    go_ret
    exact ⟨rfl, P1.out.bel⟩
  · have h2 : decide ((100 : Int) < (n : Int)) = false := decide_eq_false (by omega)
    have h3 : decide ((100 : Int) < (m : Int)) = true := decide_eq_true (by omega)
    clear hbig h1
    go_wp2
    go_ret
    exact ⟨rfl, P1.out.bel⟩
set_option maxHeartbeats 3200000 in
theorem walk (p : Pg) (Ai Al : Option Addr) (n ci m cl : Nat) (w : World) (h : PA w p Ai Al n ci m cl) (hsd : ∀ y ∈ p.ins, y.sd.length * 24 ≤ 140737488351232) (hL : LaidP w) : Calls Tryz.prog 5 #[pgV Ai n ci Al m cl] w (fun e w' => e = .returned (.bool true) ∧ Below w.heap.size w w') := by
  by_cases hbig : 100 < n ∨ 100 < m
  · exact walk_big w hL p Ai Al n ci m cl h hbig
  have hn7 : n ≤ 100 := by omega
  have hm7 : m ≤ 100 := by omega
  have P0 := Lib.hid (BP.start hL h)
  have HN := Lib.hid (And.intro h.hn h.hm)
  have hcl := h.hcl
  have HSD := Lib.hid hsd
  have hX : showP (cpP p) = showP p := showP_alike (zP_cp p)
  obtain ⟨X, hXX⟩ : ∃ X, X = showP p := ⟨_, rfl⟩
  rw [← hXX] at hX
  have HX := Lib.hid (And.intro hXX.symm hX)
  have hx2 := beq_bytes X.1
  have hx3 : (X.2 == X.2) = true := beq_self_eq_true _
  have d1 : decide ((100 : Int) < (n : Int)) = false := decide_eq_false (by omega)
  have d2 : decide ((100 : Int) < (m : Int)) = false := decide_eq_false (by omega)
  clear h hL hbig hsd hX hXX
  go_enter Tryz.func5, Tryz.ntmps5
  go_wp2_with fail
  refine (shown5_any _ P0.out.la).mono ?_
  rintro e W1 ⟨rfl, b1⟩
  have P1 := Lib.hid (P0.out.next b1)
  clear b1
  have c0 := P1.out.c0
  have c1 := P1.out.c1
  have lw := P1.out.lt
  go_wp2
  clear d1 d2
  go_loopw [27, 4] (fun i s4 wr => ∃ (k left : Nat), k ≤ m ∧ left ≤ 1000 ∧ i = .int .i64 k ∧ s4 = .int .i64 left ∧ wr = W1 ∧ Hid (Few p k)) (fun i _ _ => m - (intOf i).toNat)
  case atStart => exact ⟨0, 1000, by omega, by omega, rfl, rfl, rfl, Lib.hid ⟨fun j hj => by omega, fun j hj => by omega⟩⟩
  case round =>
    obtain ⟨k, left, hk, hleft, rfl, rfl, rfl, HF⟩ := hrel
    rename World => W1
    by_cases hlt : k < m
    · obtain ⟨x, hx⟩ : ∃ x, x = p.lns.getD k default := ⟨_, rfl⟩
      have hkp : k < p.lns.length := by rw [HN.out.2]; exact hlt
      have hxm : x ∈ p.lns := by rw [hx, List.getD_eq_getElem?_getD, List.getElem?_eq_getElem hkp]; exact List.getElem_mem hkp
      have hxb := P1.out.pa.pb.lns x hxm
      obtain ⟨g, o, rfl, hg, hlns⟩ := P1.out.pa.pu.lns (by omega)
      have hxu := hlns k hkp
      rw [← hx] at hxu
      obtain ⟨_, _, A, c, a2, hcs, hiu⟩ := hxu
      obtain ⟨z, hz⟩ : ∃ z, z = x.its.length := ⟨_, rfl⟩
      have hz0 : z ≤ 9223372036854775807 := by rw [hz]; exact hxb.len
      rw [← hz] at a2 hcs
      have q1 := idxLn0 g o m cl k hlt
      have HX2 := Lib.hid (And.intro hz (And.intro hx (And.intro hxb hiu)))
      clear hz hx hxm hxb hlns hiu hkp
      by_cases hl2 : left < z
      · have e1 : decide ((left : Int) < (z : Int)) = true := decide_eq_true (by omega)
        go_wp2
        go_ret
        exact ⟨rfl, P1.out.bel⟩
      have e1 : decide ((left : Int) < (z : Int)) = false := decide_eq_false (by omega)
      have e2 : (left : Int) - (z : Int) = ((left - z : Nat) : Int) := by omega
      have hz7 : z ≤ 1000 := by omega
      go_wp2
      go_loopw [56] (fun i wr => ∃ (j : Nat), j ≤ z ∧ i = .int .i64 j ∧ wr = W1 ∧ Hid (∀ t, t < j → (x.its.getD t default).ns.length ≤ 1000)) (fun i _ => z - (intOf i).toNat)
      case atStart => exact ⟨0, by omega, rfl, rfl, Lib.hid fun t ht => by omega⟩
      case round =>
        obtain ⟨j, hj, rfl, rfl, HG⟩ := hrel
        rename World => W1
        by_cases hjl : j < z
        · obtain ⟨it, hit⟩ : ∃ it, it = x.its.getD j default := ⟨_, rfl⟩
          have hjz : j < x.its.length := by rw [← HX2.out.1]; exact hjl
          have him : it ∈ x.its := by rw [hit, List.getD_eq_getElem?_getD, List.getElem?_eq_getElem hjz]; exact List.getElem_mem hjz
          have hib := HX2.out.2.2.1.its it him
          obtain ⟨b, ob, rfl, hbl, hits⟩ := HX2.out.2.2.2 (by omega)
          have hi1 := hits j hjz
          rw [← hit] at hi1
          obtain ⟨_, _, _, _, An, cn, c4, _, _⟩ := hi1
          obtain ⟨zn, hzn⟩ : ∃ zn, zn = it.ns.length := ⟨_, rfl⟩
          have hzn0 : zn ≤ 9223372036854775807 := by rw [hzn]; exact hib.len
          rw [← hzn] at c4
          have q2 := idxIt b ob z c j hjl
          have HY := Lib.hid (And.intro hzn hit)
          clear hzn hit him hib hits hjz
          by_cases hn2 : 1000 < zn
          · have e3 : decide ((1000 : Int) < (zn : Int)) = true := decide_eq_true (by omega)
            go_wp2
            go_ret
            exact ⟨rfl, P1.out.bel⟩
          have e3 : decide ((1000 : Int) < (zn : Int)) = false := decide_eq_false (by omega)
          go_wp2
          go_roundw
          case rel =>
            refine ⟨j + 1, by omega, by go_num, by trivial, Lib.hid fun t ht => ?_⟩
            by_cases htj : t = j
            · subst htj; rw [← HY.out.2, ← HY.out.1]; omega
            · exact HG.out t (by omega)
          case measure => simp [intOf]; omega
        · obtain hjz : z = j := by omega
          subst hjz
          go_wp2
          go_roundw
          case rel =>
            refine ⟨k + 1, left - z, by omega, by omega, by go_num, by first | rfl | rw [← e2], by trivial, Lib.hid ⟨fun t ht => ?_, fun t ht y hy => ?_⟩⟩
            · by_cases htk : t = k
              · subst htk; rw [← HX2.out.2.1, ← HX2.out.1]; omega
              · exact HF.out.its t (by omega)
            · by_cases htk : t = k
              · subst htk
                rw [← HX2.out.2.1] at hy
                obtain ⟨u, hu, rfl⟩ := List.mem_iff_getElem.1 hy
                have := HG.out u (by rw [HX2.out.1]; exact hu)
                rw [List.getD_eq_getElem?_getD, List.getElem?_eq_getElem hu] at this
                exact this
              · exact HF.out.ns t (by omega) y hy
          case measure => simp [intOf]; omega
    · obtain hkm : m = k := by omega
      subst hkm
      clear hlt
      have HCB := Lib.hid (show CpB p from ⟨by rw [HN.out.1]; exact hn7, by rw [HN.out.2]; exact hm7, HSD.out, fun x hx => by
        obtain ⟨u, hu, rfl⟩ := List.mem_iff_getElem.1 hx
        have := HF.out.its u (by rw [← HN.out.2]; exact hu)
        rw [List.getD_eq_getElem?_getD, List.getElem?_eq_getElem hu] at this
        exact this, fun x hx => by
        obtain ⟨u, hu, rfl⟩ := List.mem_iff_getElem.1 hx
        have := HF.out.ns u (by rw [← HN.out.2]; exact hu)
        rw [List.getD_eq_getElem?_getD, List.getElem?_eq_getElem hu] at this
        exact this⟩)
      go_wp2_with fail
      refine (copied_any _ p Ai Al n ci m cl P1.out.pa HCB.out).mono ?_
      rintro e W2 ⟨Bi, di, Bl, dl, rfl, b2, q2⟩
      rw [HN.out.1, HN.out.2] at q2
      rw [HN.out.1, HN.out.2]
      have P2 := Lib.hid ((P1.out.next b2).next (alloc_bel _ (pgC Bi n di Bl m dl)))
      have Q2 := Lib.hid (bp_base5 (BP.start (P1.out.next b2).la q2) (P1.out.next b2).bel)
      clear b2 q2 c0 c1 lw
      have c0 := P2.out.c0
      have c1 := P2.out.c1
      go_wp2_with fail
      refine (show5_any _ p Ai Al n ci m cl P2.out.la P2.out.pa).mono ?_
      rintro e W3 ⟨rfl, b3⟩
      have P3 := Lib.hid (P2.out.next b3)
      have Q3 := Lib.hid (Q2.out.next b3)
      clear b3 c0 c1
      rw [HX.out.1]
      have c0 := Q3.out.c0
      have c1 := Q3.out.c1
      go_wp2_with fail
      refine (show5_any _ (cpP p) Bi Bl n di m dl Q3.out.la Q3.out.pa).mono ?_
      rintro e W4 ⟨rfl, b4⟩
      have P4 := Lib.hid (P3.out.next b4)
      have Q4 := Lib.hid (Q3.out.next b4)
      clear b4 c0 c1
      rw [HX.out.2]
      have c0 := P4.out.c0
      have c1 := P4.out.c1
      have j0 := Q4.out.c0
      have j1 := Q4.out.c1
      go_wp2_with fail
      refine (alike_pa P4.out.pa Q4.out.pa).mono ?_
      rintro e W5 ⟨rfl, b5⟩
      rw [decide_eq_true (zP_cp p).symm]
      have P5 := Lib.hid (P4.out.next b5)
      clear b5 c0 c1 j0 j1
      go_wp2
      go_ret
      exact ⟨rfl, P5.out.bel⟩
end Go.Proofs.YtbapgdhcbfpdoaaGreatDoor.showPlaces
