/- Contract: products of package poly. -/
import Derived.Deep.RegionWith
import Derived.Deep.RegionHeld3
import Derived.Test.YtogflbpphacokaaPolyZA
namespace Go.Proofs.Ytogflbpphacokaa
open Go.RowKit

theorem mul_below {w wr W1 w3 w5 : World} {b : Nat} (hb : Below w.heap.size w wr) (h1 : Gr wr W1) (h3 : Gr W1.drew w3) (h5 : w3.grownBy w5 (some b)) (hw : w.heap.size ≤ b) : Below w.heap.size w w5 := by
  have hg : Gr wr w3 := (h1.drew).trans h3
  have h2 : Below w.heap.size w w3 := hb.trans (hg.below.mono hb.size)
  exact h2.grown h5 h2.size (fun k hk => by cases hk; exact hw)
theorem Cells7.lt {w : World} {b o : Nat} {m : Mo} (h : Cells7 w b o m) : b < w.heap.size := by
  obtain ⟨h0, _⟩ := h
  rcases Nat.lt_or_ge b w.heap.size with h | h
  · exact h
  · rw [World.cell?, Array.getElem?_eq_none h] at h0; cases h0

set_option maxRecDepth 100000 in
set_option maxHeartbeats 2000000 in
theorem mul_any (A B : Option Addr) (p q : List Mo) (c d : Nat) (w : World) (h : Rd w w.heap.size A p) (g : Rd w w.heap.size B q) (hl : p.length ≤ maxLen) (hl2 : q.length ≤ maxLen) :
    Calls Try.prog 28 #[.slice A p.length c, .slice B q.length d] w (PolyRes w (mulR p q)) := by
  have H := Lib.hid h
  have G := Lib.hid g
  have hmm := @run_makeMap Try.prog
  clear h g
  cases hp : rightB p with
  | false =>
    have hz := Lib.hid (mulR_no (p := p) (q := q) (by simp [hp]))
    go_enter Try.func28, Try.ntmps28
    go_wp2_with (go_at_call 13; refine (right_any A p c _ H.out hl).mono ?_; rintro e W ⟨rfl, hg1⟩)
    go_ret2
    exact res_none hz.out hg1.below
  | true =>
    cases hq : rightB q with
    | false =>
      have hz := Lib.hid (mulR_no (p := p) (q := q) (by simp [hq]))
      go_enter Try.func28, Try.ntmps28
      go_wp2_with fail
      refine (right_any A p c _ H.out hl).mono ?_
      rintro e W ⟨rfl, hg1⟩
      go_wp2_with fail
      refine (right_any B q d _ (G.out.gr hg1) hl2).mono ?_
      rintro e W2 ⟨rfl, hg2⟩
      go_wp2
      go_ret2
      exact res_none hz.out (hg1.trans hg2).below
    | true =>
      have hz := Lib.hid (show mulR p q = polyOf (prods p q) from if_pos ⟨hp, hq⟩)
      have hsm := Lib.hid (sm_mul hp hq H.out.1 G.out.1)
      have hRP := Lib.hid (right_sm hp H.out.1)
      have hRQ := Lib.hid (right_sm hq G.out.1)
      have hpl : p.length ≤ 48 := hRP.out.1
      have hql : q.length ≤ 48 := hRQ.out.1
      have mo := mixedOrders
      go_enter Try.func28, Try.ntmps28
      go_wp2_with fail
      refine (right_any A p c _ H.out hl).mono ?_
      rintro e W ⟨rfl, hg1⟩
      go_wp2_with fail
      refine (right_any B q d _ (G.out.gr hg1) hl2).mono ?_
      rintro e W2 ⟨rfl, hg2⟩
      have HW2 := Lib.hid ((hg1.trans hg2).below)
      have hbW : w.heap.size ≤ W2.heap.size := HW2.out.size
      clear hg1 hg2
      go_wp2
      go_loopw [22] (fun ii wr => ∃ i : Nat, i ≤ p.length ∧ ii = .int .i64 i ∧ MapC wr W2.heap.size (i * q.length) (coef ((prods p q).take (i * q.length))) ∧ Below w.heap.size w wr) (fun ii _ => p.length - (intOf ii).toNat)
      case atStart => exact ⟨0, by omega, rfl, by rw [Nat.zero_mul]; exact MapC.made W2, HW2.out.alloc hbW _⟩
      case round =>
        obtain ⟨i, hk, rfl, hmap, hb⟩ := hrel
        have HM := Lib.hid hmap
        have HB := Lib.hid hb
        have hsz := HB.out.size
        clear hmap hb
        by_cases hlt : i < p.length
        · obtain ⟨b, o, rfl, hb2, hc⟩ := H.out.at_ i hlt
          obtain ⟨n0, n1, n2, n3, n4, n5, n6⟩ := (hc i hlt).2.below HB.out hb2
          obtain ⟨wo, rfl⟩ : ∃ wo : World, wo = wr := ⟨_, rfl⟩
          go_wp2
          clear n0 n1 n2 n3 n4 n5 n6
          have HML := Lib.hid HM.out.lt
          go_loopw [28] (fun kk wr => ∃ k : Nat, k ≤ q.length ∧ kk = .int .i64 k ∧ MapC wr W2.heap.size (i * q.length + k) (coef ((prods p q).take (i * q.length + k))) ∧ Below w.heap.size w wr ∧ Cells7 wr wo.heap.size 0 (nth p i)) (fun kk _ => q.length - (intOf kk).toNat)
          case atStart => exact ⟨0, by omega, rfl, HM.out.gr ((Gr.refl _).alloc _), HB.out.alloc hsz _, Cells7.box wo (nth p i)⟩
          case round =>
            obtain ⟨k, hk2, rfl, hmap, hb, hbox⟩ := hrel
            clear HM HB hsz
            have HM := Lib.hid hmap
            have HB := Lib.hid hb
            have HX := Lib.hid hbox
            have hsz := HB.out.size
            clear hmap hb hbox
            by_cases hlt2 : k < q.length
            · obtain ⟨b2, o2, rfl, hb3, hc2⟩ := G.out.at_ k hlt2
              obtain ⟨n0, n1, n2, n3, n4, n5, n6⟩ := (hc2 k hlt2).2.below HB.out hb3
              go_wp2
              clear n0 n1 n2 n3 n4 n5 n6
              obtain ⟨W1, hW1⟩ : ∃ W1, W1 = wr.alloc (.cells #[.int .i64 (nth q k).n, .int .u8 (nth q k).e0, .int .u8 (nth q k).e1, .int .u8 (nth q k).e2, .int .u8 (nth q k).e3, .int .u8 (nth q k).e4, .int .u8 (nth q k).e5] 44) := ⟨_, rfl⟩
              rw [← hW1]
              have HGr := Lib.hid (show Gr wr W1 by rw [hW1]; exact (Gr.refl _).alloc _)
              have HBX := Lib.hid (show Cells7 W1 wr.heap.size 0 (nth q k) by rw [hW1]; exact Cells7.box wr (nth q k))
              have HLT := Lib.hid (show wr.heap.size < W1.heap.size by rw [hW1]; simp)
              clear hW1
              have HAX := Lib.hid (HX.out.gr (HX.out.lt) HGr.out)
              obtain ⟨n0, n1, n2, n3, n4, n5, n6⟩ := HAX.out
              obtain ⟨m0, m1, m2, m3, m4, m5, m6⟩ := HBX.out
              have HNA := Lib.hid (show some wo.heap.size ≠ some W2.heap.size from fun e => by injection e with e; have := HML.out; omega)
              have HNB := Lib.hid (show some wr.heap.size ≠ some W2.heap.size from fun e => by injection e with e; have := HM.out.lt; omega)
              have hlen : i * q.length + k < (prods p q).length := by rw [prods_len]; exact prods_lt hlt hlt2
              have HLEN := Lib.hid hlen
              have ha := hRP.out.2 _ (nth_mem hlt)
              have hb4 := hRQ.out.2 _ (nth_mem hlt2)
              have HE := Lib.hid (show ∀ v, 0 ≤ (nth p i).e v + (nth q k).e v ∧ (nth p i).e v + (nth q k).e v ≤ 255 from fun v => by have := small_ek ha.1 ha.2.2 v; have := small_ek hb4.1 hb4.2.2 v; omega)
              have hmb := mul_bd ha.2.1 hb4.2.1
              have hw1 : IntKind.i64.wrap ((nth p i).n * (nth q k).n) = (nth p i).n * (nth q k).n := IntWalk.i64_in _ (by omega)
              clear ha hb4 hmb hlen
              go_region_held3 (fun w' => w'.cell? ⟨wo.heap.size, 0, none⟩ = some (.int .i64 (nth p i).n) ∧ w'.cell? ⟨wo.heap.size, 1, none⟩ = some (.int .u8 (nth p i).e0) ∧ w'.cell? ⟨wo.heap.size, 2, none⟩ = some (.int .u8 (nth p i).e1) ∧ w'.cell? ⟨wo.heap.size, 3, none⟩ = some (.int .u8 (nth p i).e2) ∧ w'.cell? ⟨wo.heap.size, 4, none⟩ = some (.int .u8 (nth p i).e3) ∧ w'.cell? ⟨wo.heap.size, 5, none⟩ = some (.int .u8 (nth p i).e4) ∧ w'.cell? ⟨wo.heap.size, 6, none⟩ = some (.int .u8 (nth p i).e5) ∧ w'.cell? ⟨wr.heap.size, 0, none⟩ = some (.int .i64 (nth q k).n) ∧ w'.cell? ⟨wr.heap.size, 1, none⟩ = some (.int .u8 (nth q k).e0) ∧ w'.cell? ⟨wr.heap.size, 2, none⟩ = some (.int .u8 (nth q k).e1) ∧ w'.cell? ⟨wr.heap.size, 3, none⟩ = some (.int .u8 (nth q k).e2) ∧ w'.cell? ⟨wr.heap.size, 4, none⟩ = some (.int .u8 (nth q k).e3) ∧ w'.cell? ⟨wr.heap.size, 5, none⟩ = some (.int .u8 (nth q k).e4) ∧ w'.cell? ⟨wr.heap.size, 6, none⟩ = some (.int .u8 (nth q k).e5)) (go_keep)
                ((go_at_call 40; refine (together_any (nth p i) (nth q k) HE.out _).mono ?_; rintro e w3 ⟨rfl, hg3⟩; obtain ⟨hw, hlk, v0, st, w4, w5, e1, e2, hlk1, hgr1, hmap2, hgr2⟩ := map_step (w := w3) ((HM.out.gr HGr.out).gr (((Gr.refl _).drew).trans hg3)) hsm.out HLEN.out (nth_prods hlt hlt2); rw [show ((nth p i).mul (nth q k)).n = (nth p i).n * (nth q k).n from rfl] at hw e2; have HM2 := Lib.hid hmap2; have HG2 := Lib.hid hgr2; have HG3 := Lib.hid hg3; have hk3 := HAX.out.gr HAX.out.lt (((Gr.refl _).drew).trans hg3); have hj3 := HBX.out.gr HBX.out.lt (((Gr.refl _).drew).trans hg3); obtain ⟨i0, i1, i2, i3, i4, i5, i6⟩ := hk3.far hgr1 hk3.lt HNA.out; obtain ⟨l0, l1, l2, l3, l4, l5, l6⟩ := hj3.far hgr1 hj3.lt HNB.out; have HBOX := Lib.hid (hk3.far hgr2 hk3.lt HNA.out); obtain ⟨x0, x1, x2, x3, x4, x5, x6⟩ := hk3.far hgr2 hk3.lt HNA.out; obtain ⟨y0, y1, y2, y3, y4, y5, y6⟩ := hj3.far hgr2 hj3.lt HNB.out; obtain ⟨k0, k1, k2, k3, k4, k5, k6⟩ := hk3; obtain ⟨j0, j1, j2, j3, j4, j5, j6⟩ := hj3; clear hmap2 hgr2 hg3 hgr1))
              all_goals
                clear n0 n1 n2 n3 n4 n5 n6 m0 m1 m2 m3 m4 m5 m6 i0 i1 i2 i3 i4 i5 i6 l0 l1 l2 l3 l4 l5 l6 x0 x1 x2 x3 x4 x5 x6 y0 y1 y2 y3 y4 y5 y6 k0 k1 k2 k3 k4 k5 k6 j0 j1 j2 j3 j4 j5 j6 hw hlk hlk1 e1 e2 hw1
                go_wp2
                go_roundw
                case rel => exact ⟨k + 1, by omega, by go_num, HM2.out, mul_below HB.out HGr.out HG3.out HG2.out hbW, HBOX.out⟩
                case measure => simp [intOf]; omega
            · obtain rfl : k = q.length := by omega
              go_wp2
              go_roundw
              case rel => exact ⟨i + 1, by omega, by go_num, by rw [Nat.add_mul, Nat.one_mul]; exact HM.out, HB.out⟩
              case measure => simp [intOf]; omega
        · obtain rfl : i = p.length := by omega
          have hm := HM.out
          rw [List.take_of_length_le (by rw [prods_len]; exact Nat.le_refl _)] at hm
          have HM3 := Lib.hid hm
          have hns : p.length * q.length ≤ 2304 := Nat.le_trans (Nat.mul_le_mul hpl hql) (by omega)
          clear hm
          go_wp2_with fail
          refine (polynomial_any _ _ _ _ HM3.out hsm.out hns).mono ?_
          rintro e W3 ⟨A3, c3, rfl, ho3, hb3⟩
          have HO3 := Lib.hid ho3
          clear ho3
          go_wp2
          go_ret2
          rw [hz.out]
          exact ⟨A3, c3, rfl, HO3.out.base HB.out.size, HB.out.trans (hb3.mono HB.out.size)⟩
end Go.Proofs.Ytogflbpphacokaa
