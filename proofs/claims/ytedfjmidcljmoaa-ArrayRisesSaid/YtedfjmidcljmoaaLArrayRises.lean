
/- The law ArrayRises. -/
import Derived.Test.YtedfjmidcljmoaaArrT
namespace Go.Proofs.Ytedfjmidcljmoaa.arrayRises
open Go.ChangeShapes Go.WideShapes Go.ChangeAt Go.RowKit Go.Joins
set_option linter.unusedVariables false
set_option linter.unusedSimpArgs false
set_option maxRecDepth 100000 in
set_option maxHeartbeats 1000000 in
theorem walkno (A0 : Option Addr) (a0 : List Int) (k0 : Nat) (A1 : Option Addr) (a1 : List Int) (k1 : Nat) (A2 : Option Addr) (a2 : List Int) (k2 : Nat) (w : World) (r0 : RdA w A0 a0) (m0 : a0.length ≤ 9223372036854775807) (r1 : RdA w A1 a1) (m1 : a1.length ≤ 9223372036854775807) (r2 : RdA w A2 a2) (m2 : a2.length ≤ 9223372036854775807) (ho : ¬ okA a0) :
    Calls Try.prog 7 #[.slice A0 a0.length k0, .slice A1 a1.length k1, .slice A2 a2.length k2] w (BoolB w true) := by
  have Hho := Lib.hid ho
  clear ho
  have Hr2 := Lib.hid r2
  clear r2
  have Hr1 := Lib.hid r1
  clear r1
  have Hr0 := Lib.hid r0
  clear r0
  go_enter Try.func7, Try.ntmps7
  go_wp2_with fail
  refine (shown_any _).mono ?_
  rintro e W1 ⟨rfl, b1⟩
  replace Hr0 := Lib.hid (Hr0.out.below b1)
  replace Hr1 := Lib.hid (Hr1.out.below b1)
  replace Hr2 := Lib.hid (Hr2.out.below b1)
  have B := Lib.hid b1
  clear b1
  go_wp2_with fail
  refine (place_r _ _ _ _ _ _ a0 a1 _ Hr0.out Hr1.out rfl rfl m0 m1 (pl_no Hho.out)).mono ?_
  rintro e W2 ⟨rfl, b2⟩
  replace Hr0 := Lib.hid (Hr0.out.below b2)
  replace Hr1 := Lib.hid (Hr1.out.below b2)
  replace Hr2 := Lib.hid (Hr2.out.below b2)
  replace B := Lib.hid (B.out.trans (b2.mono B.out.size))
  clear b2
  go_wp2_with fail
  refine (place_r _ _ _ _ _ _ a0 a2 _ Hr0.out Hr2.out rfl rfl m0 m2 (pl_no Hho.out)).mono ?_
  rintro e W3 ⟨rfl, b3⟩
  replace Hr0 := Lib.hid (Hr0.out.below b3)
  replace Hr1 := Lib.hid (Hr1.out.below b3)
  replace Hr2 := Lib.hid (Hr2.out.below b3)
  replace B := Lib.hid (B.out.trans (b3.mono B.out.size))
  clear b3
  go_wp2
  go_ret
  exact ⟨rfl, B.out⟩

set_option maxRecDepth 100000 in
set_option maxHeartbeats 1000000 in
theorem walk0 (A0 : Option Addr) (a0 : List Int) (k0 : Nat) (A1 : Option Addr) (a1 : List Int) (k1 : Nat) (A2 : Option Addr) (a2 : List Int) (k2 : Nat) (w : World) (r0 : RdA w A0 a0) (m0 : a0.length ≤ 9223372036854775807) (r1 : RdA w A1 a1) (m1 : a1.length ≤ 9223372036854775807) (r2 : RdA w A2 a2) (m2 : a2.length ≤ 9223372036854775807) (ho : okA a0) (h1 : ¬ inA a0 a1) :
    Calls Try.prog 7 #[.slice A0 a0.length k0, .slice A1 a1.length k1, .slice A2 a2.length k2] w (BoolB w true) := by
  have Hh1 := Lib.hid h1
  clear h1
  have Hho := Lib.hid ho
  clear ho
  have Hr2 := Lib.hid r2
  clear r2
  have Hr1 := Lib.hid r1
  clear r1
  have Hr0 := Lib.hid r0
  clear r0
  go_enter Try.func7, Try.ntmps7
  go_wp2_with fail
  refine (shown_any _).mono ?_
  rintro e W1 ⟨rfl, b1⟩
  replace Hr0 := Lib.hid (Hr0.out.below b1)
  replace Hr1 := Lib.hid (Hr1.out.below b1)
  replace Hr2 := Lib.hid (Hr2.out.below b1)
  have B := Lib.hid b1
  clear b1
  go_wp2_with fail
  refine (place_r _ _ _ _ _ _ a0 a1 _ Hr0.out Hr1.out rfl rfl m0 m1 (pl_none Hho.out Hh1.out)).mono ?_
  rintro e W2 ⟨rfl, b2⟩
  replace Hr0 := Lib.hid (Hr0.out.below b2)
  replace Hr1 := Lib.hid (Hr1.out.below b2)
  replace Hr2 := Lib.hid (Hr2.out.below b2)
  replace B := Lib.hid (B.out.trans (b2.mono B.out.size))
  clear b2
  go_wp2_with fail
  refine (place_b _ _ _ _ _ _ a0 a2 _ Hr0.out Hr2.out rfl rfl m0 m2).mono ?_
  rintro e W3 ⟨rfl, b3⟩
  replace Hr0 := Lib.hid (Hr0.out.below b3)
  replace Hr1 := Lib.hid (Hr1.out.below b3)
  replace Hr2 := Lib.hid (Hr2.out.below b3)
  replace B := Lib.hid (B.out.trans (b3.mono B.out.size))
  clear b3
  go_wp2
  go_ret
  exact ⟨rfl, B.out⟩

set_option maxRecDepth 100000 in
set_option maxHeartbeats 1000000 in
theorem walk10 (A0 : Option Addr) (a0 : List Int) (k0 : Nat) (A1 : Option Addr) (a1 : List Int) (k1 : Nat) (A2 : Option Addr) (a2 : List Int) (k2 : Nat) (w : World) (r0 : RdA w A0 a0) (m0 : a0.length ≤ 9223372036854775807) (r1 : RdA w A1 a1) (m1 : a1.length ≤ 9223372036854775807) (r2 : RdA w A2 a2) (m2 : a2.length ≤ 9223372036854775807) (ho : okA a0) (h1 : inA a0 a1) (h2 : ¬ inA a0 a2) :
    Calls Try.prog 7 #[.slice A0 a0.length k0, .slice A1 a1.length k1, .slice A2 a2.length k2] w (BoolB w true) := by
  have Hh2 := Lib.hid h2
  clear h2
  have Hh1 := Lib.hid h1
  clear h1
  have Hho := Lib.hid ho
  clear ho
  have Hr2 := Lib.hid r2
  clear r2
  have Hr1 := Lib.hid r1
  clear r1
  have Hr0 := Lib.hid r0
  clear r0
  go_enter Try.func7, Try.ntmps7
  go_wp2_with fail
  refine (shown_any _).mono ?_
  rintro e W1 ⟨rfl, b1⟩
  replace Hr0 := Lib.hid (Hr0.out.below b1)
  replace Hr1 := Lib.hid (Hr1.out.below b1)
  replace Hr2 := Lib.hid (Hr2.out.below b1)
  have B := Lib.hid b1
  clear b1
  go_wp2_with fail
  refine (place_r _ _ _ _ _ _ a0 a1 _ Hr0.out Hr1.out rfl rfl m0 m1 (pl_yes Hho.out Hh1.out)).mono ?_
  rintro e W2 ⟨rfl, b2⟩
  replace Hr0 := Lib.hid (Hr0.out.below b2)
  replace Hr1 := Lib.hid (Hr1.out.below b2)
  replace Hr2 := Lib.hid (Hr2.out.below b2)
  replace B := Lib.hid (B.out.trans (b2.mono B.out.size))
  clear b2
  go_wp2_with fail
  refine (place_r _ _ _ _ _ _ a0 a2 _ Hr0.out Hr2.out rfl rfl m0 m2 (pl_none Hho.out Hh2.out)).mono ?_
  rintro e W3 ⟨rfl, b3⟩
  replace Hr0 := Lib.hid (Hr0.out.below b3)
  replace Hr1 := Lib.hid (Hr1.out.below b3)
  replace Hr2 := Lib.hid (Hr2.out.below b3)
  replace B := Lib.hid (B.out.trans (b3.mono B.out.size))
  clear b3
  go_wp2
  go_ret
  exact ⟨rfl, B.out⟩

set_option maxRecDepth 100000 in
set_option maxHeartbeats 1000000 in
theorem walk11 (A0 : Option Addr) (a0 : List Int) (k0 : Nat) (A1 : Option Addr) (a1 : List Int) (k1 : Nat) (A2 : Option Addr) (a2 : List Int) (k2 : Nat) (w : World) (r0 : RdA w A0 a0) (m0 : a0.length ≤ 9223372036854775807) (r1 : RdA w A1 a1) (m1 : a1.length ≤ 9223372036854775807) (r2 : RdA w A2 a2) (m2 : a2.length ≤ 9223372036854775807) (ho : okA a0) (h1 : inA a0 a1) (h2 : inA a0 a2) (hl : a1.length = a2.length) :
    Calls Try.prog 7 #[.slice A0 a0.length k0, .slice A1 a1.length k1, .slice A2 a2.length k2] w (BoolB w true) := by
  have Hhl := Lib.hid hl
  clear hl
  have Hh2 := Lib.hid h2
  clear h2
  have Hh1 := Lib.hid h1
  clear h1
  have Hho := Lib.hid ho
  clear ho
  have Hr2 := Lib.hid r2
  clear r2
  have Hr1 := Lib.hid r1
  clear r1
  have Hr0 := Lib.hid r0
  clear r0
  go_enter Try.func7, Try.ntmps7
  go_wp2_with fail
  refine (shown_any _).mono ?_
  rintro e W1 ⟨rfl, b1⟩
  replace Hr0 := Lib.hid (Hr0.out.below b1)
  replace Hr1 := Lib.hid (Hr1.out.below b1)
  replace Hr2 := Lib.hid (Hr2.out.below b1)
  have B := Lib.hid b1
  clear b1
  go_wp2_with fail
  refine (place_r _ _ _ _ _ _ a0 a1 _ Hr0.out Hr1.out rfl rfl m0 m1 (pl_yes Hho.out Hh1.out)).mono ?_
  rintro e W2 ⟨rfl, b2⟩
  replace Hr0 := Lib.hid (Hr0.out.below b2)
  replace Hr1 := Lib.hid (Hr1.out.below b2)
  replace Hr2 := Lib.hid (Hr2.out.below b2)
  replace B := Lib.hid (B.out.trans (b2.mono B.out.size))
  clear b2
  obtain ⟨n, hn⟩ : ∃ n, n = plA a0 a1 := ⟨_, rfl⟩
  rw [← hn]
  have HN := Lib.hid hn
  clear hn
  go_wp2_with fail
  refine (place_r _ _ _ _ _ _ a0 a2 _ Hr0.out Hr2.out rfl rfl m0 m2 (pl_yes Hho.out Hh2.out)).mono ?_
  rintro e W3 ⟨rfl, b3⟩
  replace Hr0 := Lib.hid (Hr0.out.below b3)
  replace Hr1 := Lib.hid (Hr1.out.below b3)
  replace Hr2 := Lib.hid (Hr2.out.below b3)
  replace B := Lib.hid (B.out.trans (b3.mono B.out.size))
  clear b3
  obtain ⟨n2, hn2⟩ : ∃ n2, n2 = plA a0 a2 := ⟨_, rfl⟩
  rw [← hn2]
  have HN2 := Lib.hid hn2
  clear hn2
  have hll : ((a1.length : Int) != (a2.length : Int)) = false := by rw [Hhl.out]; simp
  go_wp2
  go_loopw [50] (fun i wr => ∃ (k r : Nat), k ≤ a1.length ∧ i = .int .i64 k ∧ (∀ j, j < k → ith a1 j = ith a2 j) ∧ wr = W3.drewN r) (fun i _ => a1.length - (intOf i).toNat)
  case atStart => exact ⟨0, 0, by omega, rfl, (fun j hj => by omega), rfl⟩
  case round =>
    obtain ⟨k, r, hk, rfl, hok, rfl⟩ := hrel
    have HK := Lib.hid hok
    clear hok
    by_cases hlt : k < a1.length
    · obtain ⟨b1, o1, rfl, hb1, c1⟩ := Hr1.out.at_ hlt
      obtain ⟨b2, o2, rfl, hb2, c2⟩ := Hr2.out.at_ (show k < a2.length by rw [← Hhl.out]; exact hlt)
      obtain ⟨x, hx⟩ : ∃ x, x = ith a1 k := ⟨_, rfl⟩
      obtain ⟨y, hy⟩ : ∃ y, y = ith a2 k := ⟨_, rfl⟩
      rw [← hx] at c1
      rw [← hy] at c2
      have HX := Lib.hid hx
      have HY := Lib.hid hy
      have hk2 : (k : Int) < (a2.length : Int) := by rw [← Hhl.out]; omega
      have hk3 : k < a2.length := by rw [← Hhl.out]; omega
      clear hx hy
      by_cases he : x = y
      · subst he
        go_wp2
        go_quiet (fail)
        go_wp2
        go_roundw
        case rel => exact ⟨k + 1, _, by omega, by go_num, fun j hj => by
            rcases Nat.lt_or_ge j k with h3 | h3
            · exact HK.out j h3
            · obtain rfl : j = k := by omega
              rw [← HX.out, ← HY.out], rfl⟩
        case measure => simp [intOf]; omega
      · have h1 : (x != y) = true := by simpa using he
        have hks : k < a0.length := by rw [← inA_len Hh1.out]; exact hlt
        by_cases hxy : x < y
        · have hnm : n < n2 := by rw [HN.out, HN2.out]; exact pl_lt Hh1.out Hh2.out hks HK.out (by rw [HX.out, HY.out] at hxy; exact hxy)
          have d1 : decide (n < n2) = true := decide_eq_true hnm
          have d2 : decide (x < y) = true := decide_eq_true hxy
          have d3 : (n != n2) = true := by simp; omega
          clear he hxy hnm hks
          go_wp2
          go_quiet (fail)
          go_wp2
          go_quiet (fail)
          go_wp2
          go_ret
          exact ⟨rfl, blw_draws (blw_draws (blw_draws B.out _) _) _⟩
        · have hnm : n2 < n := by rw [HN.out, HN2.out]; exact pl_lt Hh2.out Hh1.out hks (fun j hj => (HK.out j hj).symm) (by rw [HX.out, HY.out] at hxy he; show ith a2 k < ith a1 k; omega)
          have d1 : decide (n < n2) = false := decide_eq_false (by omega)
          have d2 : decide (x < y) = false := decide_eq_false hxy
          have d3 : (n != n2) = true := by simp; omega
          clear he hxy hnm hks
          go_wp2
          go_quiet (fail)
          go_wp2
          go_quiet (fail)
          go_wp2
          go_ret
          exact ⟨rfl, blw_draws (blw_draws (blw_draws B.out _) _) _⟩
    · obtain rfl : k = a1.length := by omega
      have hab := ith_ext Hhl.out HK.out
      have d1 : (n == n2) = true := by rw [HN.out, HN2.out, hab]; simp
      clear hab hlt
      go_wp2
      go_ret
      exact ⟨rfl, blw_draws B.out _⟩

theorem walk (A0 : Option Addr) (a0 : List Int) (k0 : Nat) (A1 : Option Addr) (a1 : List Int) (k1 : Nat) (A2 : Option Addr) (a2 : List Int) (k2 : Nat) (w : World) (r0 : RdA w A0 a0) (m0 : a0.length ≤ 9223372036854775807) (r1 : RdA w A1 a1) (m1 : a1.length ≤ 9223372036854775807) (r2 : RdA w A2 a2) (m2 : a2.length ≤ 9223372036854775807) :
    Calls Try.prog 7 #[.slice A0 a0.length k0, .slice A1 a1.length k1, .slice A2 a2.length k2] w (BoolB w true) := by
  by_cases ho : okA a0
  · by_cases h1 : inA a0 a1
    · by_cases h2 : inA a0 a2
      · exact walk11 A0 a0 k0 A1 a1 k1 A2 a2 k2 w r0 m0 r1 m1 r2 m2 ho h1 h2 (by rw [inA_len h1, inA_len h2])
      · exact walk10 A0 a0 k0 A1 a1 k1 A2 a2 k2 w r0 m0 r1 m1 r2 m2 ho h1 h2
    · exact walk0 A0 a0 k0 A1 a1 k1 A2 a2 k2 w r0 m0 r1 m1 r2 m2 ho h1
  · exact walkno A0 a0 k0 A1 a1 k1 A2 a2 k2 w r0 m0 r1 m1 r2 m2 ho

set_option maxRecDepth 100000 in
set_option maxHeartbeats 1000000 in
theorem lifted (os : Os) (started : os.Started) (H : Type) (enc : TypeId × Value → H) :
    ReturnsInHanded {} Try.checked os 7 .any (Rows.arrayRisesSpec.pre6 enc Try.prog Try.f7 Rows.arrayRisesRow.domain false) (Rows.arrayRisesSpec.post enc Try.prog Try.f7 false true false false) := by
  refine returnsInHanded_of_change (C := Try.checked) lawOwn started (by kernel_rfl) Try.func7
    (ChangeSpec.witness6 (enc := enc) (C := Try.checked) false ⟨#[], #[.slice none 0 0, .slice none 0 0, .slice none 0 0], []⟩ 8 (by kernel_rfl) (by kernel_rfl) (by kernel_rfl) (by kernel_rfl)) ?_
  intro W base args ds gs before hval0 hW hcnd _
  have hval : ∀ (j : Nat) t v, Try.f7.params[j]? = some t → args[j]? = some v → Value.okWide Try.prog W .any base t v := hval0
  have hW' := hW
  obtain ⟨p, q, hA0, hV, rfl, hfz, hnd⟩ := hW
  have hA : DataW.TrodAll enc Try.prog W 0 (fun _ => true) true Try.f7.params.toList args.toList ds p := hA0
  rw [Try.params7] at hA hval
  obtain ⟨rfl, rfl⟩ := trodVars_none hV
  simp only [List.append_nil] at hW'
  obtain ⟨v0, vs0, x0, ds0, pp0, qq0, hargs, rfl, hp, h0, z0⟩ := trodAll_cons hA
  obtain ⟨v1, vs1, x1, ds1, pp1, qq1, rfl, rfl, rfl, h1, z1⟩ := trodAll_cons z0
  obtain ⟨v2, vs2, x2, ds2, pp2, qq2, rfl, rfl, rfl, h2, z2⟩ := trodAll_cons z1
  obtain ⟨rfl, rfl, rfl⟩ := trodAll_nil z2
  obtain rfl : args = #[v0, v1, v2] := by cases args; simp_all
  have hback := fun (W' : World) (hg : Below W.heap.size W W') (sp : Nat → Bool) (hs : ∀ q ∈ p, sp q.block = true) => lawArgsB hg (sp := sp) (by kernel_rfl) hA (fun q hq => hW'.lt q hq) hs
  obtain ⟨xx0, yy0, kk0, rfl⟩ := okWide_slice Try.underlying22 (hval 0 22 v0 rfl rfl)
  obtain ⟨fu0, hf0⟩ := h0
  obtain ⟨A0, a0, k0, e0, r0, m0⟩ := open_nums hf0
  simp [Value.cells] at e0
  obtain ⟨rfl, rfl, rfl⟩ := e0
  obtain ⟨xx1, yy1, kk1, rfl⟩ := okWide_slice Try.underlying22 (hval 1 22 v1 rfl rfl)
  obtain ⟨fu1, hf1⟩ := h1
  obtain ⟨A1, a1, k1, e1, r1, m1⟩ := open_nums hf1
  simp [Value.cells] at e1
  obtain ⟨rfl, rfl, rfl⟩ := e1
  obtain ⟨xx2, yy2, kk2, rfl⟩ := okWide_slice Try.underlying22 (hval 2 22 v2 rfl rfl)
  obtain ⟨fu2, hf2⟩ := h2
  obtain ⟨A2, a2, k2, e2, r2, m2⟩ := open_nums hf2
  simp [Value.cells] at e2
  obtain ⟨rfl, rfl, rfl⟩ := e2
  refine (walk _ _ _ _ _ _ _ _ _ W r0 (len_of m0) r1 (len_of m1) r2 (len_of m2)).mono fun e W' ⟨he, hg⟩ => ?_
  subst he
  exact ⟨_, rfl, lawPost (pa := p) (pv := []) hW' hg (List.append_nil _).symm (fun _ _ _ => (trodAll_cons_mk (shut_bool Try.underlying4 _) trodAll_mk0)) (fun sp hs => hback W' hg sp hs) (fun _ _ => rfl)
    (ok_one (by kernel_rfl) rfl (okWide_bool_mk Try.underlying4 _))⟩

theorem over : Rows.arrayRisesRow.holds Try.pinned (OpenSpec.ofChange Rows.arrayRisesSpec) :=
  OpenClaim.holds_of_wide 7 Try.f7 rfl rfl rfl rfl rfl rfl rfl ⟨rfl, rfl, rfl, rfl, rfl⟩ rfl rfl rfl rfl rfl (by kernel_rfl) Try.func7 (by kernel_rfl)
    (of_decide_eq_true (by kernel_rfl)) (by unfold Func.isWrapper; first | (rw [if_pos (by decide +kernel)]; kernel_rfl) | (rw [if_neg (by decide +kernel)]; exact ⟨rfl, rfl⟩))
    (fun os started H enc _ => lifted os started H enc)

/-- The statement. -/
theorem proved : Rows.ArrayRisesSaid := over
end Go.Proofs.Ytedfjmidcljmoaa.arrayRises
