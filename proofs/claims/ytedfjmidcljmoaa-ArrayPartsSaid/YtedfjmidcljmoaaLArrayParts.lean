
/- The law ArrayParts. -/
import Derived.Test.YtedfjmidcljmoaaArrU
namespace Go.Proofs.Ytedfjmidcljmoaa.arrayParts
open Go.ChangeShapes Go.WideShapes Go.ChangeAt Go.RowKit Go.Joins
set_option linter.unusedVariables false
set_option linter.unusedSimpArgs false
set_option maxRecDepth 100000 in
set_option maxHeartbeats 1000000 in
theorem walkno (S0 : Option Addr) (s0 : List Int) (p0 : Nat) (D0 : Option Addr) (d0 : List Int) (q0 : Nat) (w : World) (u0 : ArU w S0 s0.length p0 D0 d0.length q0 s0 d0) (hr : rightB s0 d0 = false) :
    Calls Try.prog 8 #[.agg #[.slice S0 s0.length p0, .slice D0 d0.length q0]] w (BoolB w true) := by
  have Hhr := Lib.hid hr
  clear hr
  have Hu0 := Lib.hid u0
  clear u0
  go_enter Try.func8, Try.ntmps8
  go_wp2_with fail
  refine (shown_any _).mono ?_
  rintro e W1 ⟨rfl, b1⟩
  obtain ⟨hc, hf⟩ := blw_reads b1
  have x0 : W1.cell? ⟨w.heap.size, 0, none⟩ = some (.slice S0 s0.length p0) := by rw [hc _ _ (by simp)]; go_simp
  have x1 : W1.cell? ⟨w.heap.size, 1, none⟩ = some (.slice D0 d0.length q0) := by rw [hc _ _ (by simp)]; go_simp
  have hz1 : w.heap.size < W1.heap.size := by have := b1.size; simp at this; omega
  replace b1 : Below w.heap.size w W1 := ((Below.refl _ _).alloc (Nat.le_refl _) (.cells #[.slice S0 s0.length p0, .slice D0 d0.length q0] 24)).trans (b1.mono (by simp))
  clear hc hf
  replace Hu0 := Lib.hid (Hu0.out.below b1)
  have B := Lib.hid b1
  clear b1
  go_wp2_with fail
  refine (lanes_r _ _ _ _ _ _ s0 d0 _ Hu0.out (la_no Hhr.out)).mono ?_
  rintro e W2 ⟨A2, n2, c2, g2, rfl, hn2, hq2, l2, b2⟩
  replace x0 : W2.cell? ⟨w.heap.size, 0, none⟩ = some (.slice S0 s0.length p0) := (b2.cell (p := ⟨w.heap.size, 0, none⟩) hz1).trans x0
  replace x1 : W2.cell? ⟨w.heap.size, 1, none⟩ = some (.slice D0 d0.length q0) := (b2.cell (p := ⟨w.heap.size, 1, none⟩) hz1).trans x1
  replace hz1 := Nat.lt_of_lt_of_le hz1 b2.size
  replace Hu0 := Lib.hid (Hu0.out.below b2)
  replace B := Lib.hid (B.out.trans (b2.mono B.out.size))
  clear b2
  obtain rfl : 0 = n2 := l2.ll
  clear l2 hq2
  go_wp2_with fail
  refine ((right_r _ _ _ _ _ _ s0 d0 _ Hu0.out Hhr.out)).mono ?_
  rintro e W3 ⟨rfl, b3⟩
  replace x0 : W3.cell? ⟨w.heap.size, 0, none⟩ = some (.slice S0 s0.length p0) := (b3.cell (p := ⟨w.heap.size, 0, none⟩) hz1).trans x0
  replace x1 : W3.cell? ⟨w.heap.size, 1, none⟩ = some (.slice D0 d0.length q0) := (b3.cell (p := ⟨w.heap.size, 1, none⟩) hz1).trans x1
  replace hz1 := Nat.lt_of_lt_of_le hz1 b3.size
  replace Hu0 := Lib.hid (Hu0.out.below b3)
  replace B := Lib.hid (B.out.trans (b3.mono B.out.size))
  clear b3
  go_wp2
  go_ret
  exact ⟨rfl, B.out⟩

set_option maxRecDepth 100000 in
set_option maxHeartbeats 1000000 in
theorem walk0 (S0 : Option Addr) (s0 : List Int) (p0 : Nat) (D0 : Option Addr) (d0 : List Int) (q0 : Nat) (w : World) (u0 : ArU w S0 s0.length p0 D0 d0.length q0 s0 d0) (hr : rightB s0 d0 = true) (hs : s0.length = 0) :
    Calls Try.prog 8 #[.agg #[.slice S0 s0.length p0, .slice D0 d0.length q0]] w (BoolB w true) := by
  have Hhs := Lib.hid hs
  clear hs
  have Hhr := Lib.hid hr
  clear hr
  have Hu0 := Lib.hid u0
  clear u0
  go_enter Try.func8, Try.ntmps8
  go_wp2_with fail
  refine (shown_any _).mono ?_
  rintro e W1 ⟨rfl, b1⟩
  obtain ⟨hc, hf⟩ := blw_reads b1
  have x0 : W1.cell? ⟨w.heap.size, 0, none⟩ = some (.slice S0 s0.length p0) := by rw [hc _ _ (by simp)]; go_simp
  have x1 : W1.cell? ⟨w.heap.size, 1, none⟩ = some (.slice D0 d0.length q0) := by rw [hc _ _ (by simp)]; go_simp
  have hz1 : w.heap.size < W1.heap.size := by have := b1.size; simp at this; omega
  replace b1 : Below w.heap.size w W1 := ((Below.refl _ _).alloc (Nat.le_refl _) (.cells #[.slice S0 s0.length p0, .slice D0 d0.length q0] 24)).trans (b1.mono (by simp))
  clear hc hf
  replace Hu0 := Lib.hid (Hu0.out.below b1)
  have B := Lib.hid b1
  clear b1
  have xx0 := Lib.hid x0
  have xx1 := Lib.hid x1
  have zz1 := Lib.hid hz1
  have uu1 := Lib.hid Hu0
  have bb1 := Lib.hid B
  go_wp2_with fail
  refine (lanes_r _ _ _ _ _ _ s0 d0 _ Hu0.out (la_yes Hhr.out)).mono ?_
  rintro e W2 ⟨A2, n2, c2, g2, rfl, hn2, hq2, l2, b2⟩
  have bk2 := b2
  replace x0 : W2.cell? ⟨w.heap.size, 0, none⟩ = some (.slice S0 s0.length p0) := (b2.cell (p := ⟨w.heap.size, 0, none⟩) hz1).trans x0
  replace x1 : W2.cell? ⟨w.heap.size, 1, none⟩ = some (.slice D0 d0.length q0) := (b2.cell (p := ⟨w.heap.size, 1, none⟩) hz1).trans x1
  replace hz1 := Nat.lt_of_lt_of_le hz1 b2.size
  replace Hu0 := Lib.hid (Hu0.out.below b2)
  replace B := Lib.hid (B.out.trans (b2.mono B.out.size))
  clear b2
  have bl2 := Lib.hid bk2
  have L2 := Lib.hid l2
  have Q2 := Lib.hid hq2
  clear l2 hq2 bk2
  obtain ⟨ls, hls⟩ : ∃ ls, ls = partsA (lnA s0).toNat (nlA s0 d0) d0 := ⟨_, rfl⟩
  have hfl : ls.flatten = d0 := by rw [hls]; exact parts_flat _ _ _ (fill_all Hhr.out)
  have hL := L2.out
  have hQ := Q2.out
  have hL2 : LnR W2 W1.heap.size (.slice A2 n2 c2) n2 g2 ls := by rw [hls]; exact hL
  have hQ2 : ∀ l ∈ ls, l.length ≤ 65536 ∧ ∀ x ∈ l, rngA x := by rw [hls]; exact hQ
  have hB12 : Below W1.heap.size W1 W2 := bl2.out
  have HST := Lib.hid hL2.st
  have HPT := Lib.hid (PtW.start hL2 hB12)
  have HQ := Lib.hid hQ2
  have HFL := Lib.hid hfl
  have hdl := (right_len Hhr.out).1
  have HLL := Lib.hid hL2.ll
  have X0 := Lib.hid xx0.out
  have X1 := Lib.hid xx1.out
  have HZ := Lib.hid zz1.out
  have HU1 := Lib.hid uu1.out.out
  have HB1 := Lib.hid bb1.out.out
  clear hL hQ hL2 hQ2 hfl hls L2 Q2 bl2 Hu0 B x0 x1 hz1 xx0 xx1 zz1 uu1 bb1 hB12
  obtain ⟨H2, hH2⟩ : ∃ H2, H2 = W2.heap.size := ⟨_, rfl⟩
  rw [← hH2] at HST HPT
  clear hH2
  go_wp2
  go_loopw [6, 36] (fun v r wr => ∃ (i : Nat) (A : Option Addr) (m c : Nat), i ≤ n2 ∧ r = .int .i64 i ∧ v = .slice A m c ∧ PtW W1 H2 n2 (.slice A2 n2 c2) g2 ls wr i A m c) (fun _ r _ => n2 - (intOf r).toNat)
  case atStart => exact ⟨0, none, 0, 0, by omega, rfl, rfl, HPT.out⟩
  case round =>
    obtain ⟨i, A, m, c, hi, rfl, rfl, hpt⟩ := hrel
    have HP := Lib.hid hpt
    clear hpt
    by_cases hlt : i < n2
    · obtain ⟨g4, Y, m1, c1, rfl, k1, k2, k3, k4, k5, k6⟩ := HP.out.next HST.out HQ.out hlt
      have K2 := Lib.hid k2
      have K3 := Lib.hid k3
      have K4 := Lib.hid k4
      have hml : m + m1 ≤ 65536 := by
        have h1 := all_len HP.out
        have h2 := flat_len (ls := ls) (i := i + 1)
        rw [take_flat (by rw [HLL.out]; exact hlt), List.length_append, h1, HFL.out, k4] at h2
        omega
      clear k2 k3 k4
      go_wp2_with (at_builtin; refine wpList_app_i rfl _ _ rfl H2 (.slice A m c) m ((ls.take i).flatten) (by rfl) HP.out.all Y m1 c1 (ls.getD i []) (by rfl) K4.out K3.out (by omega) HP.out.big ?_; intro A5 c5 w5 ha5; have HAP := Lib.hid (HP.out.app HST.out hlt K2.out ha5.out).1; have HCU := Lib.hid (HP.out.app HST.out hlt K2.out ha5.out).2; have k1' : w5.cell? ⟨g4, i, none⟩ = some (.slice Y m1 c1) := (by rw [HAP.out.row_at hlt]; exact K2.out))
      clear k1 k1' ha5
      go_loopw [50] (fun r wr => ∃ (k : Nat), k ≤ m1 ∧ r = .int .i64 k ∧ PtW W1 H2 n2 (.slice (some ⟨g4, 0, none⟩) n2 c2) g2 ls wr (i + 1) A5 (m + m1) c5 ∧ CurA W1.heap.size Y m1 c1 wr) (fun r _ => m1 - (intOf r).toNat)
      case atStart => exact ⟨0, by omega, rfl, HAP.out, HCU.out⟩
      case round =>
        obtain ⟨k, hk, rfl, hpt, hcu⟩ := hrel
        have HP2 := Lib.hid hpt
        have HC2 := Lib.hid hcu
        clear hpt hcu
        by_cases hlk : k < m1
        · obtain ⟨g, rfl, hg1, hg2⟩ := HC2.out.form hlk
          obtain ⟨⟨z, t1⟩, t2⟩ := HC2.out.at_ hlk
          have k1' : wr.cell? ⟨g4, i, none⟩ = some (.slice (some ⟨g, 0, none⟩) m1 c1) := by rw [HP2.out.row_at hlt]; exact K2.out
          go_wp2
          go_roundw
          case rel =>
            have hst := HP2.out.store (k := k) (z := 77) HST.out hlt K2.out HC2.out
            exact ⟨k + 1, by omega, by go_num, hst.1, hst.2⟩
          case measure => simp [intOf]; omega
        · obtain rfl : k = m1 := by omega
          go_wp2
          go_roundw
          case rel => exact ⟨i + 1, A5, m + k, c5, by omega, by go_num, rfl, HP2.out⟩
          case measure => simp [intOf]; omega
    · obtain rfl : i = n2 := by omega
      have hall := HP.out.all
      rw [List.take_of_length_le (by rw [HLL.out]; exact Nat.le_refl _), HFL.out] at hall
      have hmd : d0.length = m := by have := hall.1; simpa using this
      have HMD := Lib.hid hmd
      have hbr := HP.out.below
      have x0 : wr.cell? ⟨w.heap.size, 0, none⟩ = some (.slice S0 s0.length p0) := (hbr.cell (p := ⟨w.heap.size, 0, none⟩) HZ.out).trans X0.out
      have x1 : wr.cell? ⟨w.heap.size, 1, none⟩ = some (.slice D0 d0.length q0) := (hbr.cell (p := ⟨w.heap.size, 1, none⟩) HZ.out).trans X1.out
      have hz : w.heap.size < wr.heap.size := Nat.lt_of_lt_of_le HZ.out hbr.size
      have HR := Lib.hid (RdA.of_own hall HU1.out.rd.1)
      have HU := Lib.hid (HU1.out.below hbr)
      have HB := Lib.hid (HB1.out.trans (hbr.mono HB1.out.size))
      clear hall hmd hbr hlt
      go_wp2_with fail
      refine (ints_self _ _ _ _ _ _ d0 _ HR.out HU.out.rd HMD.out rfl (by rw [← HMD.out]; omega)).mono ?_
      rintro e W4 ⟨rfl, b4⟩
      replace x0 : W4.cell? ⟨w.heap.size, 0, none⟩ = some (.slice S0 s0.length p0) := (b4.cell (p := ⟨w.heap.size, 0, none⟩) hz).trans x0
      replace x1 : W4.cell? ⟨w.heap.size, 1, none⟩ = some (.slice D0 d0.length q0) := (b4.cell (p := ⟨w.heap.size, 1, none⟩) hz).trans x1
      replace hz := Nat.lt_of_lt_of_le hz b4.size
      replace HU := Lib.hid (HU.out.below b4)
      replace HB := Lib.hid (HB.out.trans (b4.mono HB.out.size))
      clear b4 HR
      have hn0 : ((s0.length : Int) == 0) = true := by rw [Hhs.out]; rfl
      go_wp2_with fail
      refine (cell_r _ _ _ _ _ _ 0 s0 d0 _ HU.out (ce_none Hhr.out (by rw [Hhs.out]; omega))).mono ?_
      rintro e W5 ⟨As, ns, cs, Ad, nd, cd, rfl, u5, o5, oo5, b5⟩
      have HB5 := Lib.hid (HB.out.trans (b5.mono HB.out.size))
      clear b5 u5 o5 oo5
      go_wp2
      go_ret
      exact ⟨rfl, HB5.out.alloc HB5.out.size _⟩

set_option maxRecDepth 100000 in
set_option maxHeartbeats 1000000 in
theorem walk200 (S0 : Option Addr) (s0 : List Int) (p0 : Nat) (D0 : Option Addr) (d0 : List Int) (q0 : Nat) (w : World) (u0 : ArU w S0 s0.length p0 D0 d0.length q0 s0 d0) (hr : rightB s0 d0 = true) (hs : 0 < s0.length) (hb : 200 < ith s0 0) :
    Calls Try.prog 8 #[.agg #[.slice S0 s0.length p0, .slice D0 d0.length q0]] w (BoolB w true) := by
  have Hhb := Lib.hid hb
  clear hb
  have Hhs := Lib.hid hs
  clear hs
  have Hhr := Lib.hid hr
  clear hr
  have Hu0 := Lib.hid u0
  clear u0
  go_enter Try.func8, Try.ntmps8
  go_wp2_with fail
  refine (shown_any _).mono ?_
  rintro e W1 ⟨rfl, b1⟩
  obtain ⟨hc, hf⟩ := blw_reads b1
  have x0 : W1.cell? ⟨w.heap.size, 0, none⟩ = some (.slice S0 s0.length p0) := by rw [hc _ _ (by simp)]; go_simp
  have x1 : W1.cell? ⟨w.heap.size, 1, none⟩ = some (.slice D0 d0.length q0) := by rw [hc _ _ (by simp)]; go_simp
  have hz1 : w.heap.size < W1.heap.size := by have := b1.size; simp at this; omega
  replace b1 : Below w.heap.size w W1 := ((Below.refl _ _).alloc (Nat.le_refl _) (.cells #[.slice S0 s0.length p0, .slice D0 d0.length q0] 24)).trans (b1.mono (by simp))
  clear hc hf
  replace Hu0 := Lib.hid (Hu0.out.below b1)
  have B := Lib.hid b1
  clear b1
  have xx0 := Lib.hid x0
  have xx1 := Lib.hid x1
  have zz1 := Lib.hid hz1
  have uu1 := Lib.hid Hu0
  have bb1 := Lib.hid B
  go_wp2_with fail
  refine (lanes_r _ _ _ _ _ _ s0 d0 _ Hu0.out (la_yes Hhr.out)).mono ?_
  rintro e W2 ⟨A2, n2, c2, g2, rfl, hn2, hq2, l2, b2⟩
  have bk2 := b2
  replace x0 : W2.cell? ⟨w.heap.size, 0, none⟩ = some (.slice S0 s0.length p0) := (b2.cell (p := ⟨w.heap.size, 0, none⟩) hz1).trans x0
  replace x1 : W2.cell? ⟨w.heap.size, 1, none⟩ = some (.slice D0 d0.length q0) := (b2.cell (p := ⟨w.heap.size, 1, none⟩) hz1).trans x1
  replace hz1 := Nat.lt_of_lt_of_le hz1 b2.size
  replace Hu0 := Lib.hid (Hu0.out.below b2)
  replace B := Lib.hid (B.out.trans (b2.mono B.out.size))
  clear b2
  have bl2 := Lib.hid bk2
  have L2 := Lib.hid l2
  have Q2 := Lib.hid hq2
  clear l2 hq2 bk2
  obtain ⟨ls, hls⟩ : ∃ ls, ls = partsA (lnA s0).toNat (nlA s0 d0) d0 := ⟨_, rfl⟩
  have hfl : ls.flatten = d0 := by rw [hls]; exact parts_flat _ _ _ (fill_all Hhr.out)
  have hL := L2.out
  have hQ := Q2.out
  have hL2 : LnR W2 W1.heap.size (.slice A2 n2 c2) n2 g2 ls := by rw [hls]; exact hL
  have hQ2 : ∀ l ∈ ls, l.length ≤ 65536 ∧ ∀ x ∈ l, rngA x := by rw [hls]; exact hQ
  have hB12 : Below W1.heap.size W1 W2 := bl2.out
  have HST := Lib.hid hL2.st
  have HPT := Lib.hid (PtW.start hL2 hB12)
  have HQ := Lib.hid hQ2
  have HFL := Lib.hid hfl
  have hdl := (right_len Hhr.out).1
  have HLL := Lib.hid hL2.ll
  have X0 := Lib.hid xx0.out
  have X1 := Lib.hid xx1.out
  have HZ := Lib.hid zz1.out
  have HU1 := Lib.hid uu1.out.out
  have HB1 := Lib.hid bb1.out.out
  clear hL hQ hL2 hQ2 hfl hls L2 Q2 bl2 Hu0 B x0 x1 hz1 xx0 xx1 zz1 uu1 bb1 hB12
  obtain ⟨H2, hH2⟩ : ∃ H2, H2 = W2.heap.size := ⟨_, rfl⟩
  rw [← hH2] at HST HPT
  clear hH2
  go_wp2
  go_loopw [6, 36] (fun v r wr => ∃ (i : Nat) (A : Option Addr) (m c : Nat), i ≤ n2 ∧ r = .int .i64 i ∧ v = .slice A m c ∧ PtW W1 H2 n2 (.slice A2 n2 c2) g2 ls wr i A m c) (fun _ r _ => n2 - (intOf r).toNat)
  case atStart => exact ⟨0, none, 0, 0, by omega, rfl, rfl, HPT.out⟩
  case round =>
    obtain ⟨i, A, m, c, hi, rfl, rfl, hpt⟩ := hrel
    have HP := Lib.hid hpt
    clear hpt
    by_cases hlt : i < n2
    · obtain ⟨g4, Y, m1, c1, rfl, k1, k2, k3, k4, k5, k6⟩ := HP.out.next HST.out HQ.out hlt
      have K2 := Lib.hid k2
      have K3 := Lib.hid k3
      have K4 := Lib.hid k4
      have hml : m + m1 ≤ 65536 := by
        have h1 := all_len HP.out
        have h2 := flat_len (ls := ls) (i := i + 1)
        rw [take_flat (by rw [HLL.out]; exact hlt), List.length_append, h1, HFL.out, k4] at h2
        omega
      clear k2 k3 k4
      go_wp2_with (at_builtin; refine wpList_app_i rfl _ _ rfl H2 (.slice A m c) m ((ls.take i).flatten) (by rfl) HP.out.all Y m1 c1 (ls.getD i []) (by rfl) K4.out K3.out (by omega) HP.out.big ?_; intro A5 c5 w5 ha5; have HAP := Lib.hid (HP.out.app HST.out hlt K2.out ha5.out).1; have HCU := Lib.hid (HP.out.app HST.out hlt K2.out ha5.out).2; have k1' : w5.cell? ⟨g4, i, none⟩ = some (.slice Y m1 c1) := (by rw [HAP.out.row_at hlt]; exact K2.out))
      clear k1 k1' ha5
      go_loopw [50] (fun r wr => ∃ (k : Nat), k ≤ m1 ∧ r = .int .i64 k ∧ PtW W1 H2 n2 (.slice (some ⟨g4, 0, none⟩) n2 c2) g2 ls wr (i + 1) A5 (m + m1) c5 ∧ CurA W1.heap.size Y m1 c1 wr) (fun r _ => m1 - (intOf r).toNat)
      case atStart => exact ⟨0, by omega, rfl, HAP.out, HCU.out⟩
      case round =>
        obtain ⟨k, hk, rfl, hpt, hcu⟩ := hrel
        have HP2 := Lib.hid hpt
        have HC2 := Lib.hid hcu
        clear hpt hcu
        by_cases hlk : k < m1
        · obtain ⟨g, rfl, hg1, hg2⟩ := HC2.out.form hlk
          obtain ⟨⟨z, t1⟩, t2⟩ := HC2.out.at_ hlk
          have k1' : wr.cell? ⟨g4, i, none⟩ = some (.slice (some ⟨g, 0, none⟩) m1 c1) := by rw [HP2.out.row_at hlt]; exact K2.out
          go_wp2
          go_roundw
          case rel =>
            have hst := HP2.out.store (k := k) (z := 77) HST.out hlt K2.out HC2.out
            exact ⟨k + 1, by omega, by go_num, hst.1, hst.2⟩
          case measure => simp [intOf]; omega
        · obtain rfl : k = m1 := by omega
          go_wp2
          go_roundw
          case rel => exact ⟨i + 1, A5, m + k, c5, by omega, by go_num, rfl, HP2.out⟩
          case measure => simp [intOf]; omega
    · obtain rfl : i = n2 := by omega
      have hall := HP.out.all
      rw [List.take_of_length_le (by rw [HLL.out]; exact Nat.le_refl _), HFL.out] at hall
      have hmd : d0.length = m := by have := hall.1; simpa using this
      have HMD := Lib.hid hmd
      have hbr := HP.out.below
      have x0 : wr.cell? ⟨w.heap.size, 0, none⟩ = some (.slice S0 s0.length p0) := (hbr.cell (p := ⟨w.heap.size, 0, none⟩) HZ.out).trans X0.out
      have x1 : wr.cell? ⟨w.heap.size, 1, none⟩ = some (.slice D0 d0.length q0) := (hbr.cell (p := ⟨w.heap.size, 1, none⟩) HZ.out).trans X1.out
      have hz : w.heap.size < wr.heap.size := Nat.lt_of_lt_of_le HZ.out hbr.size
      have HR := Lib.hid (RdA.of_own hall HU1.out.rd.1)
      have HU := Lib.hid (HU1.out.below hbr)
      have HB := Lib.hid (HB1.out.trans (hbr.mono HB1.out.size))
      clear hall hmd hbr hlt
      go_wp2_with fail
      refine (ints_self _ _ _ _ _ _ d0 _ HR.out HU.out.rd HMD.out rfl (by rw [← HMD.out]; omega)).mono ?_
      rintro e W4 ⟨rfl, b4⟩
      replace x0 : W4.cell? ⟨w.heap.size, 0, none⟩ = some (.slice S0 s0.length p0) := (b4.cell (p := ⟨w.heap.size, 0, none⟩) hz).trans x0
      replace x1 : W4.cell? ⟨w.heap.size, 1, none⟩ = some (.slice D0 d0.length q0) := (b4.cell (p := ⟨w.heap.size, 1, none⟩) hz).trans x1
      replace hz := Nat.lt_of_lt_of_le hz b4.size
      replace HU := Lib.hid (HU.out.below b4)
      replace HB := Lib.hid (HB.out.trans (b4.mono HB.out.size))
      clear b4 HR
      obtain ⟨b0, o0, rfl, hb0, hc0⟩ := HU.out.rs.at_ (k := 0) Hhs.out
      rw [Nat.add_zero] at hc0
      have hn0 : ((s0.length : Int) == 0) = false := by have h := Hhs.out; rw [beq_eq_false_iff_ne]; omega
      have hn1 := Hhs.out
      have hbig := Hhb.out
      go_wp2
      go_ret
      exact ⟨rfl, HB.out⟩

set_option maxRecDepth 100000 in
set_option maxHeartbeats 1000000 in
theorem walkall (S0 : Option Addr) (s0 : List Int) (p0 : Nat) (D0 : Option Addr) (d0 : List Int) (q0 : Nat) (w : World) (u0 : ArU w S0 s0.length p0 D0 d0.length q0 s0 d0) (hr : rightB s0 d0 = true) (hs : 0 < s0.length) (hb : ¬ 200 < ith s0 0) :
    Calls Try.prog 8 #[.agg #[.slice S0 s0.length p0, .slice D0 d0.length q0]] w (BoolB w true) := by
  have Hhb := Lib.hid hb
  clear hb
  have Hhs := Lib.hid hs
  clear hs
  have Hhr := Lib.hid hr
  clear hr
  have Hu0 := Lib.hid u0
  clear u0
  go_enter Try.func8, Try.ntmps8
  go_wp2_with fail
  refine (shown_any _).mono ?_
  rintro e W1 ⟨rfl, b1⟩
  obtain ⟨hc, hf⟩ := blw_reads b1
  have x0 : W1.cell? ⟨w.heap.size, 0, none⟩ = some (.slice S0 s0.length p0) := by rw [hc _ _ (by simp)]; go_simp
  have x1 : W1.cell? ⟨w.heap.size, 1, none⟩ = some (.slice D0 d0.length q0) := by rw [hc _ _ (by simp)]; go_simp
  have hz1 : w.heap.size < W1.heap.size := by have := b1.size; simp at this; omega
  replace b1 : Below w.heap.size w W1 := ((Below.refl _ _).alloc (Nat.le_refl _) (.cells #[.slice S0 s0.length p0, .slice D0 d0.length q0] 24)).trans (b1.mono (by simp))
  clear hc hf
  replace Hu0 := Lib.hid (Hu0.out.below b1)
  have B := Lib.hid b1
  clear b1
  have xx0 := Lib.hid x0
  have xx1 := Lib.hid x1
  have zz1 := Lib.hid hz1
  have uu1 := Lib.hid Hu0
  have bb1 := Lib.hid B
  go_wp2_with fail
  refine (lanes_r _ _ _ _ _ _ s0 d0 _ Hu0.out (la_yes Hhr.out)).mono ?_
  rintro e W2 ⟨A2, n2, c2, g2, rfl, hn2, hq2, l2, b2⟩
  have bk2 := b2
  replace x0 : W2.cell? ⟨w.heap.size, 0, none⟩ = some (.slice S0 s0.length p0) := (b2.cell (p := ⟨w.heap.size, 0, none⟩) hz1).trans x0
  replace x1 : W2.cell? ⟨w.heap.size, 1, none⟩ = some (.slice D0 d0.length q0) := (b2.cell (p := ⟨w.heap.size, 1, none⟩) hz1).trans x1
  replace hz1 := Nat.lt_of_lt_of_le hz1 b2.size
  replace Hu0 := Lib.hid (Hu0.out.below b2)
  replace B := Lib.hid (B.out.trans (b2.mono B.out.size))
  clear b2
  have bl2 := Lib.hid bk2
  have L2 := Lib.hid l2
  have Q2 := Lib.hid hq2
  clear l2 hq2 bk2
  obtain ⟨ls, hls⟩ : ∃ ls, ls = partsA (lnA s0).toNat (nlA s0 d0) d0 := ⟨_, rfl⟩
  have hfl : ls.flatten = d0 := by rw [hls]; exact parts_flat _ _ _ (fill_all Hhr.out)
  have hL := L2.out
  have hQ := Q2.out
  have hL2 : LnR W2 W1.heap.size (.slice A2 n2 c2) n2 g2 ls := by rw [hls]; exact hL
  have hQ2 : ∀ l ∈ ls, l.length ≤ 65536 ∧ ∀ x ∈ l, rngA x := by rw [hls]; exact hQ
  have hB12 : Below W1.heap.size W1 W2 := bl2.out
  have HST := Lib.hid hL2.st
  have HPT := Lib.hid (PtW.start hL2 hB12)
  have HQ := Lib.hid hQ2
  have HFL := Lib.hid hfl
  have hdl := (right_len Hhr.out).1
  have HLL := Lib.hid hL2.ll
  have X0 := Lib.hid xx0.out
  have X1 := Lib.hid xx1.out
  have HZ := Lib.hid zz1.out
  have HU1 := Lib.hid uu1.out.out
  have HB1 := Lib.hid bb1.out.out
  clear hL hQ hL2 hQ2 hfl hls L2 Q2 bl2 Hu0 B x0 x1 hz1 xx0 xx1 zz1 uu1 bb1 hB12
  obtain ⟨H2, hH2⟩ : ∃ H2, H2 = W2.heap.size := ⟨_, rfl⟩
  rw [← hH2] at HST HPT
  clear hH2
  go_wp2
  go_loopw [6, 36] (fun v r wr => ∃ (i : Nat) (A : Option Addr) (m c : Nat), i ≤ n2 ∧ r = .int .i64 i ∧ v = .slice A m c ∧ PtW W1 H2 n2 (.slice A2 n2 c2) g2 ls wr i A m c) (fun _ r _ => n2 - (intOf r).toNat)
  case atStart => exact ⟨0, none, 0, 0, by omega, rfl, rfl, HPT.out⟩
  case round =>
    obtain ⟨i, A, m, c, hi, rfl, rfl, hpt⟩ := hrel
    have HP := Lib.hid hpt
    clear hpt
    by_cases hlt : i < n2
    · obtain ⟨g4, Y, m1, c1, rfl, k1, k2, k3, k4, k5, k6⟩ := HP.out.next HST.out HQ.out hlt
      have K2 := Lib.hid k2
      have K3 := Lib.hid k3
      have K4 := Lib.hid k4
      have hml : m + m1 ≤ 65536 := by
        have h1 := all_len HP.out
        have h2 := flat_len (ls := ls) (i := i + 1)
        rw [take_flat (by rw [HLL.out]; exact hlt), List.length_append, h1, HFL.out, k4] at h2
        omega
      clear k2 k3 k4
      go_wp2_with (at_builtin; refine wpList_app_i rfl _ _ rfl H2 (.slice A m c) m ((ls.take i).flatten) (by rfl) HP.out.all Y m1 c1 (ls.getD i []) (by rfl) K4.out K3.out (by omega) HP.out.big ?_; intro A5 c5 w5 ha5; have HAP := Lib.hid (HP.out.app HST.out hlt K2.out ha5.out).1; have HCU := Lib.hid (HP.out.app HST.out hlt K2.out ha5.out).2; have k1' : w5.cell? ⟨g4, i, none⟩ = some (.slice Y m1 c1) := (by rw [HAP.out.row_at hlt]; exact K2.out))
      clear k1 k1' ha5
      go_loopw [50] (fun r wr => ∃ (k : Nat), k ≤ m1 ∧ r = .int .i64 k ∧ PtW W1 H2 n2 (.slice (some ⟨g4, 0, none⟩) n2 c2) g2 ls wr (i + 1) A5 (m + m1) c5 ∧ CurA W1.heap.size Y m1 c1 wr) (fun r _ => m1 - (intOf r).toNat)
      case atStart => exact ⟨0, by omega, rfl, HAP.out, HCU.out⟩
      case round =>
        obtain ⟨k, hk, rfl, hpt, hcu⟩ := hrel
        have HP2 := Lib.hid hpt
        have HC2 := Lib.hid hcu
        clear hpt hcu
        by_cases hlk : k < m1
        · obtain ⟨g, rfl, hg1, hg2⟩ := HC2.out.form hlk
          obtain ⟨⟨z, t1⟩, t2⟩ := HC2.out.at_ hlk
          have k1' : wr.cell? ⟨g4, i, none⟩ = some (.slice (some ⟨g, 0, none⟩) m1 c1) := by rw [HP2.out.row_at hlt]; exact K2.out
          go_wp2
          go_roundw
          case rel =>
            have hst := HP2.out.store (k := k) (z := 77) HST.out hlt K2.out HC2.out
            exact ⟨k + 1, by omega, by go_num, hst.1, hst.2⟩
          case measure => simp [intOf]; omega
        · obtain rfl : k = m1 := by omega
          go_wp2
          go_roundw
          case rel => exact ⟨i + 1, A5, m + k, c5, by omega, by go_num, rfl, HP2.out⟩
          case measure => simp [intOf]; omega
    · obtain rfl : i = n2 := by omega
      have hall := HP.out.all
      rw [List.take_of_length_le (by rw [HLL.out]; exact Nat.le_refl _), HFL.out] at hall
      have hmd : d0.length = m := by have := hall.1; simpa using this
      have HMD := Lib.hid hmd
      have hbr := HP.out.below
      have x0 : wr.cell? ⟨w.heap.size, 0, none⟩ = some (.slice S0 s0.length p0) := (hbr.cell (p := ⟨w.heap.size, 0, none⟩) HZ.out).trans X0.out
      have x1 : wr.cell? ⟨w.heap.size, 1, none⟩ = some (.slice D0 d0.length q0) := (hbr.cell (p := ⟨w.heap.size, 1, none⟩) HZ.out).trans X1.out
      have hz : w.heap.size < wr.heap.size := Nat.lt_of_lt_of_le HZ.out hbr.size
      have HR := Lib.hid (RdA.of_own hall HU1.out.rd.1)
      have HU := Lib.hid (HU1.out.below hbr)
      have HB := Lib.hid (HB1.out.trans (hbr.mono HB1.out.size))
      clear hall hmd hbr hlt
      go_wp2_with fail
      refine (ints_self _ _ _ _ _ _ d0 _ HR.out HU.out.rd HMD.out rfl (by rw [← HMD.out]; omega)).mono ?_
      rintro e W4 ⟨rfl, b4⟩
      replace x0 : W4.cell? ⟨w.heap.size, 0, none⟩ = some (.slice S0 s0.length p0) := (b4.cell (p := ⟨w.heap.size, 0, none⟩) hz).trans x0
      replace x1 : W4.cell? ⟨w.heap.size, 1, none⟩ = some (.slice D0 d0.length q0) := (b4.cell (p := ⟨w.heap.size, 1, none⟩) hz).trans x1
      replace hz := Nat.lt_of_lt_of_le hz b4.size
      replace HU := Lib.hid (HU.out.below b4)
      replace HB := Lib.hid (HB.out.trans (b4.mono HB.out.size))
      clear b4 HR
      obtain ⟨b0, o0, rfl, hb0, hc0⟩ := HU.out.rs.at_ (k := 0) Hhs.out
      rw [Nat.add_zero] at hc0
      have hn0 : ((s0.length : Int) == 0) = false := by have h := Hhs.out; rw [beq_eq_false_iff_ne]; omega
      have hn1 := Hhs.out
      have hbig := Hhb.out
      have hx0 := (ok_ith (right_yes Hhr.out).1 0).1
      obtain ⟨x, hx⟩ : ∃ x : Nat, (x : Int) = ith s0 0 := ⟨(ith s0 0).toNat, by omega⟩
      rw [← hx] at hc0 hbig hx0
      have HX := Lib.hid hx
      clear hx
      obtain ⟨q, hq⟩ : ∃ q, q = clA s0 d0 := ⟨_, rfl⟩
      have hxq : x * q = d0.length := by
        have h1 := all_cells Hhr.out Hhs.out
        rw [← HX.out, Int.toNat_natCast, ← hq] at h1; exact h1
      have HXQ := Lib.hid hxq
      have HQ := Lib.hid hq
      have HC0 := Lib.hid hc0
      have X4 := Lib.hid x0
      have X5 := Lib.hid x1
      have hb0' : b0 < W4.heap.size := hb0
      clear hxq hq
      go_wp2
      clear hc0 x0 x1
      go_loopw [6, 11] (fun v r wr => ∃ (k : Nat) (A : Option Addr) (m c : Nat), k ≤ x ∧ r = .int .i64 k ∧ v = .slice A m c ∧ wr.ownsRow W4.heap.size 2 1 (.slice A m c) m ((d0.take (k * q)).map fun x => Value.int .i64 x) ∧ Below W4.heap.size W4 wr) (fun _ r _ => x - (intOf r).toNat)
      case atStart => exact ⟨0, none, 0, 0, by omega, rfl, rfl, by rw [Nat.zero_mul]; exact World.ownsRow_nil _ _ _ _, Below.refl _ _⟩
      case round =>
        obtain ⟨k, A, m, c, hk, rfl, rfl, hown, hbb⟩ := hrel
        have HO := Lib.hid hown
        have HBB := Lib.hid hbb
        have hc0 : wr.cell? ⟨b0, o0, none⟩ = some (.int .i64 (x : Int)) := (hbb.cell (p := ⟨b0, o0, none⟩) hb0').trans HC0.out
        have x0 : wr.cell? ⟨w.heap.size, 0, none⟩ = some (.slice (some ⟨b0, o0, none⟩) s0.length p0) := (hbb.cell (p := ⟨w.heap.size, 0, none⟩) hz).trans X4.out
        have x1 : wr.cell? ⟨w.heap.size, 1, none⟩ = some (.slice D0 d0.length q0) := (hbb.cell (p := ⟨w.heap.size, 1, none⟩) hz).trans X5.out
        clear hown hbb
        have hml : m = k * q := by
          have h1 := HO.out.1
          have h2 := Nat.mul_le_mul_right q hk
          rw [HXQ.out] at h2
          rw [List.length_map, List.length_take, Nat.mul_one] at h1
          omega
        by_cases hlt : k < x
        · have hlt' : (k : Int) < ith s0 0 := by rw [← HX.out]; omega
          have hce : ceR s0 d0 (k : Int) = ((s0.drop 1, (d0.drop (k * q)).take q), 0) := by
            rw [ce_yes Hhr.out ⟨Hhs.out, by omega, hlt'⟩, Int.toNat_natCast, ← HQ.out]
          have hcr := cell_right Hhr.out Hhs.out hlt'
          have hcl := cut_len Hhr.out Hhs.out hlt'
          rw [← HQ.out] at hcr hcl
          have hmq : m + q ≤ 65536 := by
            have h2 := Nat.mul_le_mul_right q (show k + 1 ≤ x from hlt)
            rw [HXQ.out, Nat.add_mul, Nat.one_mul] at h2
            omega
          have HCE := Lib.hid hce
          have HCR := Lib.hid hcr
          have HCL := Lib.hid hcl
          have HML := Lib.hid hml
          clear hce hcr hcl hlt' hml
          go_wp2_with fail
          refine (cell_r _ _ _ _ _ _ (k : Int) s0 d0 _ (HU.out.below HBB.out) HCE.out).mono ?_
          rintro e w6 ⟨As, ns, cs, Ad, nd, cd, rfl, u6, o6, oo6, b6⟩
          obtain rfl : q = nd := by rw [← u6.ld]; exact HCL.out.symm
          have HU6 := Lib.hid u6
          have HO6 := Lib.hid oo6
          have B6 := Lib.hid b6
          clear u6 o6 oo6 b6
          go_wp2_with fail
          refine (right_r _ _ _ _ _ _ (s0.drop 1) ((d0.drop (k * q)).take q) _ (HU6.out.below ((Below.refl _ _).alloc (Nat.le_refl _) (.cells #[.slice As ns cs, .slice Ad q cd] 24))) HCR.out).mono ?_
          rintro e w7 ⟨rfl, b7⟩
          have B7 := Lib.hid b7
          have t1 : w7.cell? ⟨w6.heap.size, 1, none⟩ = some (.slice Ad q cd) := by
            rw [b7.cell (p := ⟨w6.heap.size, 1, none⟩) (by simp)]; go_simp
          have hz7 : w6.heap.size < w7.heap.size := by have := b7.size; simp at this; omega
          have hw7 : W4.heap.size ≤ w7.heap.size := by have := HBB.out.size; have := B6.out.size; omega
          have O7 := Lib.hid (own_below ((own_below HO.out B6.out).alloc (.cells #[.slice As ns cs, .slice Ad q cd] 24)) b7)
          have R7 := Lib.hid ((HU6.out.below (((Below.refl _ _).alloc (Nat.le_refl _) (.cells #[.slice As ns cs, .slice Ad q cd] 24)).trans (b7.mono (by simp)))).rd)
          clear b7 x0 x1 hc0
          go_wp2_with (at_builtin; refine wpList_app_i rfl _ _ rfl W4.heap.size (.slice A m c) m (d0.take (k * q)) (by rfl) O7.out Ad q cd ((d0.drop (k * q)).take q) (by rfl) HCL.out R7.out (by omega) hw7 ?_; intro A8 c8 w8 ha8; have HM := Lib.hid (CtI.make HO.out HBB.out B6.out HO6.out B7.out ha8.out); have t8 := HM.out.bx)
          clear t1 t8 ha8
          go_loopw [114] (fun r wz => ∃ (i : Nat), i ≤ q ∧ r = .int .i64 i ∧ CtI W4 wr.heap.size w6.heap.size Ad q cd (d0.take (k * q) ++ (d0.drop (k * q)).take q) wz A8 (m + q) c8) (fun r _ => q - (intOf r).toNat)
          case atStart => exact ⟨0, by omega, rfl, HM.out⟩
          case round =>
            obtain ⟨i, hi, rfl, hct⟩ := hrel
            have HCT := Lib.hid hct
            clear hct
            by_cases hli : i < q
            · obtain ⟨g, rfl, hg1, hg2⟩ := HCT.out.cur.form hli
              obtain ⟨⟨z, v1⟩, v2⟩ := HCT.out.cur.at_ hli
              have t8 := HCT.out.bx
              go_wp2
              go_roundw
              case rel => exact ⟨i + 1, by omega, by go_num, HCT.out.store⟩
              case measure => simp [intOf]; omega
            · obtain rfl : i = q := by omega
              go_wp2
              go_roundw
              case rel => exact ⟨k + 1, A8, m + i, c8, by omega, by go_num, rfl, by rw [take_cell]; exact HCT.out.all, HCT.out.below⟩
              case measure => simp [intOf]; omega
        · obtain rfl : k = x := by omega
          have hall := HO.out
          rw [HXQ.out, List.take_length] at hall
          have HMD2 := Lib.hid (show d0.length = m by rw [hml, HXQ.out])
          have HR2 := Lib.hid (RdA.of_own hall HU.out.rd.1)
          have hmm : m ≤ 65536 := by rw [← HMD2.out]; exact hdl
          clear hall hml
          go_wp2_with fail
          refine (ints_self _ _ _ _ _ _ d0 _ HR2.out (HU.out.below HBB.out).rd HMD2.out rfl (by omega)).mono ?_
          rintro e w9 ⟨rfl, b9⟩
          have HB9 := Lib.hid (HB.out.trans ((HBB.out.mono HB.out.size).trans (b9.mono (Nat.le_trans HB.out.size HBB.out.size))))
          clear b9
          go_wp2
          go_ret
          exact ⟨rfl, HB9.out⟩

theorem walk (S0 : Option Addr) (s0 : List Int) (p0 : Nat) (D0 : Option Addr) (d0 : List Int) (q0 : Nat) (w : World) (u0 : ArU w S0 s0.length p0 D0 d0.length q0 s0 d0) :
    Calls Try.prog 8 #[.agg #[.slice S0 s0.length p0, .slice D0 d0.length q0]] w (BoolB w true) := by
  cases hr : rightB s0 d0 with
  | false => exact walkno S0 s0 p0 D0 d0 q0 w u0 hr
  | true =>
    by_cases hs : 0 < s0.length
    · by_cases hb : 200 < ith s0 0
      · exact walk200 S0 s0 p0 D0 d0 q0 w u0 hr hs hb
      · exact walkall S0 s0 p0 D0 d0 q0 w u0 hr hs hb
    · exact walk0 S0 s0 p0 D0 d0 q0 w u0 hr (by omega)

set_option maxRecDepth 100000 in
set_option maxHeartbeats 1000000 in
theorem lifted (os : Os) (started : os.Started) (H : Type) (enc : TypeId × Value → H) :
    ReturnsInHanded {} Try.checked os 8 .any (Rows.arrayPartsSpec.pre6 enc Try.prog Try.f8 Rows.arrayPartsRow.domain false) (Rows.arrayPartsSpec.post enc Try.prog Try.f8 false true false false) := by
  refine returnsInHanded_of_change (C := Try.checked) lawOwn started (by kernel_rfl) Try.func8
    (ChangeSpec.witness6 (enc := enc) (C := Try.checked) false ⟨#[], #[.agg #[.slice none 0 0, .slice none 0 0]], []⟩ 8 (by kernel_rfl) (by kernel_rfl) (by kernel_rfl) (by kernel_rfl)) ?_
  intro W base args ds gs before hval0 hW hcnd _
  have hval : ∀ (j : Nat) t v, Try.f8.params[j]? = some t → args[j]? = some v → Value.okWide Try.prog W .any base t v := hval0
  have hW' := hW
  obtain ⟨p, q, hA0, hV, rfl, hfz, hnd⟩ := hW
  have hA : DataW.TrodAll enc Try.prog W 0 (fun _ => true) true Try.f8.params.toList args.toList ds p := hA0
  rw [Try.params8] at hA hval
  obtain ⟨rfl, rfl⟩ := trodVars_none hV
  simp only [List.append_nil] at hW'
  obtain ⟨v0, vs0, x0, ds0, pp0, qq0, hargs, rfl, hp, h0, z0⟩ := trodAll_cons hA
  obtain ⟨rfl, rfl, rfl⟩ := trodAll_nil z0
  obtain rfl : args = #[v0] := by cases args; simp_all
  have hback := fun (W' : World) (hg : Below W.heap.size W W') (sp : Nat → Bool) (hs : ∀ q ∈ p, sp q.block = true) => lawArgsB hg (sp := sp) (by kernel_rfl) hA (fun q hq => hW'.lt q hq) hs
  obtain ⟨c0_0, c0_1, y0_0, y0_1, mm0, rfl, _, _, hy0_0, hy0_1⟩ := open_agg2 Try.underlying24 (by kernel_rfl) cells_array (hval 0 24 v0 rfl rfl) h0
  obtain ⟨A0_0, a0_0, k0_0, e0_0, r0_0, m0_0⟩ := open_nums hy0_0
  simp at e0_0
  subst e0_0
  obtain ⟨A0_1, a0_1, k0_1, e0_1, r0_1, m0_1⟩ := open_nums hy0_1
  simp at e0_1
  subst e0_1
  refine (walk _ _ _ _ _ _ W (aru_of r0_0 r0_1 m0_0 m0_1)).mono fun e W' ⟨he, hg⟩ => ?_
  subst he
  exact ⟨_, rfl, lawPost (pa := p) (pv := []) hW' hg (List.append_nil _).symm (fun _ _ _ => (trodAll_cons_mk (shut_bool Try.underlying4 _) trodAll_mk0)) (fun sp hs => hback W' hg sp hs) (fun _ _ => rfl)
    (ok_one (by kernel_rfl) rfl (okWide_bool_mk Try.underlying4 _))⟩

theorem over : Rows.arrayPartsRow.holds Try.pinned (OpenSpec.ofChange Rows.arrayPartsSpec) :=
  OpenClaim.holds_of_wide 8 Try.f8 rfl rfl rfl rfl rfl rfl rfl ⟨rfl, rfl, rfl, rfl, rfl⟩ rfl rfl rfl rfl rfl (by kernel_rfl) Try.func8 (by kernel_rfl)
    (of_decide_eq_true (by kernel_rfl)) (by unfold Func.isWrapper; first | (rw [if_pos (by decide +kernel)]; kernel_rfl) | (rw [if_neg (by decide +kernel)]; exact ⟨rfl, rfl⟩))
    (fun os started H enc _ => lifted os started H enc)

/-- The statement. -/
theorem proved : Rows.ArrayPartsSaid := over
end Go.Proofs.Ytedfjmidcljmoaa.arrayParts
