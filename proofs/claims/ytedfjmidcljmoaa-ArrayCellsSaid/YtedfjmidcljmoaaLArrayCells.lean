
/- The law ArrayCells. -/
import Derived.Test.YtedfjmidcljmoaaArrT
namespace Go.Proofs.Ytedfjmidcljmoaa.arrayCells
open Go.ChangeShapes Go.WideShapes Go.ChangeAt Go.RowKit Go.Joins
set_option linter.unusedVariables false
set_option linter.unusedSimpArgs false
set_option maxRecDepth 100000 in
set_option maxHeartbeats 1000000 in
theorem walk (S0 : Option Addr) (s0 : List Int) (p0 : Nat) (D0 : Option Addr) (d0 : List Int) (q0 : Nat) (a1 : Int) (w : World) (u0 : ArU w S0 s0.length p0 D0 d0.length q0 s0 d0) (w1 : (Lit.int .i64 a1).wf = true) :
    Calls Try.prog 5 #[.agg #[.slice S0 s0.length p0, .slice D0 d0.length q0], .int .i64 a1] w (BoolB w true) := by
  have Hu0 := Lib.hid u0
  clear u0
  go_enter Try.func5, Try.ntmps5
  go_wp2_with fail
  refine (shown_any _).mono ?_
  rintro e W1 ⟨rfl, b1⟩
  obtain ⟨hc, hf⟩ := blw_reads b1
  have x0 : W1.cell? ⟨w.heap.size, 0, none⟩ = some (.slice S0 s0.length p0) := by rw [hc _ _ (by simp)]; go_simp
  have x1 : W1.cell? ⟨w.heap.size, 1, none⟩ = some (.slice D0 d0.length q0) := by rw [hc _ _ (by simp)]; go_simp
  have hz1 : w.heap.size < W1.heap.size := by have := b1.size; simp at this; omega
  replace b1 : Below w.heap.size w W1 := ((Below.refl _ _).alloc (Nat.le_refl _) (.cells #[.slice S0 s0.length p0, .slice D0 d0.length q0] 24)).trans (b1.mono (by simp))
  clear hc hf
  replace Hu0 := Lib.hid (Hu0.out.below b1)
  have B := Lib.hid b1
  clear b1
  go_wp2_with fail
  refine (cell_any _ _ _ _ _ _ a1 s0 d0 _ Hu0.out).mono ?_
  rintro e W2 ⟨As2, ns2, cs2, Ad2, nd2, cd2, rfl, u2, o2, oo2, b2⟩
  replace x0 : W2.cell? ⟨w.heap.size, 0, none⟩ = some (.slice S0 s0.length p0) := (b2.cell (p := ⟨w.heap.size, 0, none⟩) hz1).trans x0
  replace x1 : W2.cell? ⟨w.heap.size, 1, none⟩ = some (.slice D0 d0.length q0) := (b2.cell (p := ⟨w.heap.size, 1, none⟩) hz1).trans x1
  replace hz1 := Nat.lt_of_lt_of_le hz1 b2.size
  replace Hu0 := Lib.hid (Hu0.out.below b2)
  replace B := Lib.hid (B.out.trans (b2.mono B.out.size))
  clear b2
  have HU2 := Lib.hid u2
  clear u2 o2 oo2
  go_wp2_with fail
  refine (refcell_any _ _ _ _ _ _ a1 s0 d0 _ (Hu0.out.below ((Below.refl _ _).alloc (Nat.le_refl _) (.cells #[.slice As2 ns2 cs2, .slice Ad2 nd2 cd2] 24)))).mono ?_
  rintro e W3 ⟨As3, ns3, cs3, Ad3, nd3, cd3, rfl, u3, o3, oo3, b3⟩
  obtain ⟨hc, hf⟩ := blw_reads b3
  have y0 : W3.cell? ⟨W2.heap.size, 0, none⟩ = some (.slice As2 ns2 cs2) := by rw [hc _ _ (by simp)]; go_simp
  have y1 : W3.cell? ⟨W2.heap.size, 1, none⟩ = some (.slice Ad2 nd2 cd2) := by rw [hc _ _ (by simp)]; go_simp
  have hz3 : W2.heap.size < W3.heap.size := by have := b3.size; simp at this; omega
  replace b3 : Below W2.heap.size W2 W3 := ((Below.refl _ _).alloc (Nat.le_refl _) (.cells #[.slice As2 ns2 cs2, .slice Ad2 nd2 cd2] 24)).trans (b3.mono (by simp))
  clear hc hf
  replace x0 : W3.cell? ⟨w.heap.size, 0, none⟩ = some (.slice S0 s0.length p0) := (b3.cell (p := ⟨w.heap.size, 0, none⟩) hz1).trans x0
  replace x1 : W3.cell? ⟨w.heap.size, 1, none⟩ = some (.slice D0 d0.length q0) := (b3.cell (p := ⟨w.heap.size, 1, none⟩) hz1).trans x1
  replace hz1 := Nat.lt_of_lt_of_le hz1 b3.size
  replace Hu0 := Lib.hid (Hu0.out.below b3)
  replace HU2 := Lib.hid (HU2.out.below b3)
  replace B := Lib.hid (B.out.trans (b3.mono B.out.size))
  clear b3
  have HU3 := Lib.hid u3
  clear u3 o3 oo3
  go_wp2_with fail
  refine (lanes_any _ _ _ _ _ _ s0 d0 _ (Hu0.out.below ((Below.refl _ _).alloc (Nat.le_refl _) (.cells #[.slice As3 ns3 cs3, .slice Ad3 nd3 cd3] 24)))).mono ?_
  rintro e W4 ⟨A4, n4, c4, g4, rfl, hn4, hq4, l4, b4⟩
  obtain ⟨hc, hf⟩ := blw_reads b4
  have z0 : W4.cell? ⟨W3.heap.size, 0, none⟩ = some (.slice As3 ns3 cs3) := by rw [hc _ _ (by simp)]; go_simp
  have z1 : W4.cell? ⟨W3.heap.size, 1, none⟩ = some (.slice Ad3 nd3 cd3) := by rw [hc _ _ (by simp)]; go_simp
  have hz4 : W3.heap.size < W4.heap.size := by have := b4.size; simp at this; omega
  replace b4 : Below W3.heap.size W3 W4 := ((Below.refl _ _).alloc (Nat.le_refl _) (.cells #[.slice As3 ns3 cs3, .slice Ad3 nd3 cd3] 24)).trans (b4.mono (by simp))
  clear hc hf
  replace x0 : W4.cell? ⟨w.heap.size, 0, none⟩ = some (.slice S0 s0.length p0) := (b4.cell (p := ⟨w.heap.size, 0, none⟩) hz1).trans x0
  replace x1 : W4.cell? ⟨w.heap.size, 1, none⟩ = some (.slice D0 d0.length q0) := (b4.cell (p := ⟨w.heap.size, 1, none⟩) hz1).trans x1
  replace y0 : W4.cell? ⟨W2.heap.size, 0, none⟩ = some (.slice As2 ns2 cs2) := (b4.cell (p := ⟨W2.heap.size, 0, none⟩) hz3).trans y0
  replace y1 : W4.cell? ⟨W2.heap.size, 1, none⟩ = some (.slice Ad2 nd2 cd2) := (b4.cell (p := ⟨W2.heap.size, 1, none⟩) hz3).trans y1
  replace hz1 := Nat.lt_of_lt_of_le hz1 b4.size
  replace hz3 := Nat.lt_of_lt_of_le hz3 b4.size
  replace Hu0 := Lib.hid (Hu0.out.below b4)
  replace HU2 := Lib.hid (HU2.out.below b4)
  replace HU3 := Lib.hid (HU3.out.below b4)
  replace B := Lib.hid (B.out.trans (b4.mono B.out.size))
  clear b4
  have L4 := Lib.hid l4
  have Q4 := Lib.hid hq4
  clear l4 hq4
  go_wp2_with fail
  refine (reflanes_any _ _ _ _ _ _ s0 d0 _ Hu0.out).mono ?_
  rintro e W5 ⟨A5, n5, c5, g5, rfl, hn5, hq5, l5, b5⟩
  replace x0 : W5.cell? ⟨w.heap.size, 0, none⟩ = some (.slice S0 s0.length p0) := (b5.cell (p := ⟨w.heap.size, 0, none⟩) hz1).trans x0
  replace x1 : W5.cell? ⟨w.heap.size, 1, none⟩ = some (.slice D0 d0.length q0) := (b5.cell (p := ⟨w.heap.size, 1, none⟩) hz1).trans x1
  replace y0 : W5.cell? ⟨W2.heap.size, 0, none⟩ = some (.slice As2 ns2 cs2) := (b5.cell (p := ⟨W2.heap.size, 0, none⟩) hz3).trans y0
  replace y1 : W5.cell? ⟨W2.heap.size, 1, none⟩ = some (.slice Ad2 nd2 cd2) := (b5.cell (p := ⟨W2.heap.size, 1, none⟩) hz3).trans y1
  replace z0 : W5.cell? ⟨W3.heap.size, 0, none⟩ = some (.slice As3 ns3 cs3) := (b5.cell (p := ⟨W3.heap.size, 0, none⟩) hz4).trans z0
  replace z1 : W5.cell? ⟨W3.heap.size, 1, none⟩ = some (.slice Ad3 nd3 cd3) := (b5.cell (p := ⟨W3.heap.size, 1, none⟩) hz4).trans z1
  replace hz1 := Nat.lt_of_lt_of_le hz1 b5.size
  replace hz3 := Nat.lt_of_lt_of_le hz3 b5.size
  replace hz4 := Nat.lt_of_lt_of_le hz4 b5.size
  replace Hu0 := Lib.hid (Hu0.out.below b5)
  replace HU2 := Lib.hid (HU2.out.below b5)
  replace HU3 := Lib.hid (HU3.out.below b5)
  replace L4 := Lib.hid (L4.out.up b5)
  replace B := Lib.hid (B.out.trans (b5.mono B.out.size))
  clear b5
  obtain rfl : n4 = n5 := by rw [← L4.out.ll, l5.ll]
  have L5 := Lib.hid l5
  clear l5 hq5
  go_wp2_with fail
  refine (same_self _ _ _ _ _ _ _ _ _ _ _ _ _ _ _ HU2.out HU3.out).mono ?_
  rintro e W6 ⟨rfl, b6⟩
  replace x0 : W6.cell? ⟨w.heap.size, 0, none⟩ = some (.slice S0 s0.length p0) := (b6.cell (p := ⟨w.heap.size, 0, none⟩) hz1).trans x0
  replace x1 : W6.cell? ⟨w.heap.size, 1, none⟩ = some (.slice D0 d0.length q0) := (b6.cell (p := ⟨w.heap.size, 1, none⟩) hz1).trans x1
  replace y0 : W6.cell? ⟨W2.heap.size, 0, none⟩ = some (.slice As2 ns2 cs2) := (b6.cell (p := ⟨W2.heap.size, 0, none⟩) hz3).trans y0
  replace y1 : W6.cell? ⟨W2.heap.size, 1, none⟩ = some (.slice Ad2 nd2 cd2) := (b6.cell (p := ⟨W2.heap.size, 1, none⟩) hz3).trans y1
  replace z0 : W6.cell? ⟨W3.heap.size, 0, none⟩ = some (.slice As3 ns3 cs3) := (b6.cell (p := ⟨W3.heap.size, 0, none⟩) hz4).trans z0
  replace z1 : W6.cell? ⟨W3.heap.size, 1, none⟩ = some (.slice Ad3 nd3 cd3) := (b6.cell (p := ⟨W3.heap.size, 1, none⟩) hz4).trans z1
  replace hz1 := Nat.lt_of_lt_of_le hz1 b6.size
  replace hz3 := Nat.lt_of_lt_of_le hz3 b6.size
  replace hz4 := Nat.lt_of_lt_of_le hz4 b6.size
  replace Hu0 := Lib.hid (Hu0.out.below b6)
  replace HU2 := Lib.hid (HU2.out.below b6)
  replace HU3 := Lib.hid (HU3.out.below b6)
  replace L4 := Lib.hid (L4.out.up b6)
  replace L5 := Lib.hid (L5.out.up b6)
  replace B := Lib.hid (B.out.trans (b6.mono B.out.size))
  clear b6
  go_wp2
  clear x0 x1 y0 y1 z0 z1
  go_loopw [61] (fun i wr => ∃ (k : Nat), k ≤ n4 ∧ i = .int .i64 k ∧ Below W6.heap.size W6 wr) (fun i _ => n4 - (intOf i).toNat)
  case atStart => exact ⟨0, by omega, rfl, Below.refl _ _⟩
  case round =>
    obtain ⟨k, hk, rfl, hbb⟩ := hrel
    have HBB := Lib.hid hbb
    clear hbb
    by_cases hlt : k < n4
    · obtain ⟨g1, Y1, m1, e1, rfl, k1, v1, t1, z1⟩ := (L4.out.up HBB.out).at_ Q4.out hlt
      obtain ⟨g2, Y2, m2, e2, rfl, k2, v2, t2, z2⟩ := (L5.out.up HBB.out).at_ Q4.out hlt
      have HQ := Lib.hid (fun q : Nat => ints_q Y1 m1 e1 Y2 m2 e2 _ (wr.drewN q) v1 v2 t1 t2 (by omega))
      clear v1 v2 t1 t2
      go_wp2_with fail
      go_quiet (first | (go_at_call 18; exact Calls.quiet_of (HQ.out _)))
      go_wp2
      go_roundw
      case rel => exact ⟨k + 1, by omega, by go_num, blw_draws HBB.out _⟩
      case measure => simp [intOf]; omega
    · obtain rfl : k = n4 := by omega
      go_wp2
      go_ret
      exact ⟨rfl, B.out.trans (HBB.out.mono B.out.size)⟩

set_option maxRecDepth 100000 in
set_option maxHeartbeats 1000000 in
theorem lifted (os : Os) (started : os.Started) (H : Type) (enc : TypeId × Value → H) :
    ReturnsInHanded {} Try.checked os 5 .any (Rows.arrayCellsSpec.pre6 enc Try.prog Try.f5 Rows.arrayCellsRow.domain false) (Rows.arrayCellsSpec.post enc Try.prog Try.f5 false true false false) := by
  refine returnsInHanded_of_change (C := Try.checked) lawOwn started (by kernel_rfl) Try.func5
    (ChangeSpec.witness6 (enc := enc) (C := Try.checked) false ⟨#[], #[.agg #[.slice none 0 0, .slice none 0 0], .int .i64 0], []⟩ 8 (by kernel_rfl) (by kernel_rfl) (by kernel_rfl) (by kernel_rfl)) ?_
  intro W base args ds gs before hval0 hW hcnd _
  have hval : ∀ (j : Nat) t v, Try.f5.params[j]? = some t → args[j]? = some v → Value.okWide Try.prog W .any base t v := hval0
  have hW' := hW
  obtain ⟨p, q, hA0, hV, rfl, hfz, hnd⟩ := hW
  have hA : DataW.TrodAll enc Try.prog W 0 (fun _ => true) true Try.f5.params.toList args.toList ds p := hA0
  rw [Try.params5] at hA hval
  obtain ⟨rfl, rfl⟩ := trodVars_none hV
  simp only [List.append_nil] at hW'
  obtain ⟨v0, vs0, x0, ds0, pp0, qq0, hargs, rfl, hp, h0, z0⟩ := trodAll_cons hA
  obtain ⟨v1, vs1, x1, ds1, pp1, qq1, rfl, rfl, rfl, h1, z1⟩ := trodAll_cons z0
  obtain ⟨rfl, rfl, rfl⟩ := trodAll_nil z1
  obtain rfl : args = #[v0, v1] := by cases args; simp_all
  have hback := fun (W' : World) (hg : Below W.heap.size W W') (sp : Nat → Bool) (hs : ∀ q ∈ p, sp q.block = true) => lawArgsB hg (sp := sp) (by kernel_rfl) hA (fun q hq => hW'.lt q hq) hs
  obtain ⟨c0_0, c0_1, y0_0, y0_1, mm0, rfl, _, _, hy0_0, hy0_1⟩ := open_agg2 Try.underlying24 (by kernel_rfl) cells_array (hval 0 24 v0 rfl rfl) h0
  obtain ⟨A0_0, a0_0, k0_0, e0_0, r0_0, m0_0⟩ := open_nums hy0_0
  simp at e0_0
  subst e0_0
  obtain ⟨A0_1, a0_1, k0_1, e0_1, r0_1, m0_1⟩ := open_nums hy0_1
  simp at e0_1
  subst e0_1
  obtain ⟨a1, rfl, _, _, w1⟩ := open_int Try.underlying2 (hval 1 2 v1 rfl rfl) h1
  refine (walk _ _ _ _ _ _ a1 W (aru_of r0_0 r0_1 m0_0 m0_1) w1).mono fun e W' ⟨he, hg⟩ => ?_
  subst he
  exact ⟨_, rfl, lawPost (pa := p) (pv := []) hW' hg (List.append_nil _).symm (fun _ _ _ => (trodAll_cons_mk (shut_bool Try.underlying4 _) trodAll_mk0)) (fun sp hs => hback W' hg sp hs) (fun _ _ => rfl)
    (ok_one (by kernel_rfl) rfl (okWide_bool_mk Try.underlying4 _))⟩

theorem over : Rows.arrayCellsRow.holds Try.pinned (OpenSpec.ofChange Rows.arrayCellsSpec) :=
  OpenClaim.holds_of_wide 5 Try.f5 rfl rfl rfl rfl rfl rfl rfl ⟨rfl, rfl, rfl, rfl, rfl⟩ rfl rfl rfl rfl rfl (by kernel_rfl) Try.func5 (by kernel_rfl)
    (of_decide_eq_true (by kernel_rfl)) (by unfold Func.isWrapper; first | (rw [if_pos (by decide +kernel)]; kernel_rfl) | (rw [if_neg (by decide +kernel)]; exact ⟨rfl, rfl⟩))
    (fun os started H enc _ => lifted os started H enc)

/-- The statement. -/
theorem proved : Rows.ArrayCellsSaid := over
end Go.Proofs.Ytedfjmidcljmoaa.arrayCells
