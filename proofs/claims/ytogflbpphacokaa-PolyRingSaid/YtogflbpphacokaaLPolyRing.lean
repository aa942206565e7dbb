/- The law PolyRing. -/
import Derived.Test.YtogflbpphacokaaPolyLC
namespace Go.Proofs.Ytogflbpphacokaa.polyRing
open Go.ChangeShapes Go.WideShapes Go.ChangeAt Go.RowKit Go.Joins
set_option linter.unusedVariables false
set_option maxRecDepth 100000 in
set_option maxHeartbeats 1000000 in
theorem walk (A0 : Option Addr) (a0 : List Mo) (k0 : Nat) (A1 : Option Addr) (a1 : List Mo) (k1 : Nat) (A2 : Option Addr) (a2 : List Mo) (k2 : Nat) (w : World) (r0 : Rd w w.heap.size A0 a0) (m0 : a0.length ≤ maxLen) (r1 : Rd w w.heap.size A1 a1) (m1 : a1.length ≤ maxLen) (r2 : Rd w w.heap.size A2 a2) (m2 : a2.length ≤ maxLen) :
    Calls Try.prog 8 #[.slice A0 a0.length k0, .slice A1 a1.length k1, .slice A2 a2.length k2] w fun e w' => e = .returned (.bool true) ∧ Below w.heap.size w w' := by
  have U0 := Lib.hid r0.1
  have U1 := Lib.hid r1.1
  have U2 := Lib.hid r2.1
  obtain ⟨a, e, hS⟩ : ∃ a e, addR 1 a0 a1 = (a, e) := ⟨_, _, rfl⟩
  obtain ⟨m, g, hM⟩ : ∃ m g, mulR a0 a1 = (m, g) := ⟨_, _, rfl⟩
  have okA := Lib.hid (show Okl a from by have := add_ok (.inl rfl) U0.out U1.out; rwa [hS] at this)
  have okM := Lib.hid (show Okl m from by have := mul_ok U0.out U1.out; rwa [hM] at this)
  have hS' : addR 1 a1 a0 = (a, e) := by rw [← ring1 U0.out U1.out]; exact hS
  have hM' : mulR a1 a0 = (m, g) := by rw [← ring2 U0.out U1.out]; exact hM
  have HS := Lib.hid hS
  have HM := Lib.hid hM
  have HS' := Lib.hid hS'
  have HM' := Lib.hid hM'
  clear hS hM hS' hM'
  have Hr0 := Lib.hid r0
  clear r0
  have Hr1 := Lib.hid r1
  clear r1
  have Hr2 := Lib.hid r2
  clear r2
  go_enter Try.func8, Try.ntmps8
  go_wp2_with fail
  refine (shown_any _).mono ?_
  rintro e W1 ⟨rfl, b1⟩
  replace Hr0 := Lib.hid (Hr0.out.below b1)
  replace Hr1 := Lib.hid (Hr1.out.below b1)
  replace Hr2 := Lib.hid (Hr2.out.below b1)
  have B := Lib.hid b1
  clear b1
  go_wp2_with fail
  refine (calls_is (add_any _ _ _ _ _ _ _ Hr0.out Hr1.out m0 m1) HS.out).mono ?_
  rintro e W2 ⟨A2', c2, rfl, o2, b2⟩
  have R2 := Lib.hid (o2.ok okA.out)
  clear o2
  replace Hr0 := Lib.hid (Hr0.out.below b2)
  replace Hr1 := Lib.hid (Hr1.out.below b2)
  replace Hr2 := Lib.hid (Hr2.out.below b2)
  replace B := Lib.hid (B.out.trans (b2.mono B.out.size))
  clear b2
  go_wp2_with fail
  refine (calls_is (add_any _ _ _ _ _ _ _ Hr1.out Hr0.out m1 m0) HS'.out).mono ?_
  rintro e W3 ⟨A3', c3, rfl, o3, b3⟩
  have R3 := Lib.hid (o3.ok okA.out)
  clear o3
  replace Hr0 := Lib.hid (Hr0.out.below b3)
  replace Hr1 := Lib.hid (Hr1.out.below b3)
  replace Hr2 := Lib.hid (Hr2.out.below b3)
  replace R2 := Lib.hid (R2.out.below b3)
  replace B := Lib.hid (B.out.trans (b3.mono B.out.size))
  clear b3
  go_wp2_with fail
  refine (calls_is (mul_any _ _ _ _ _ _ _ Hr0.out Hr1.out m0 m1) HM.out).mono ?_
  rintro e W4 ⟨A4', c4, rfl, o4, b4⟩
  have R4 := Lib.hid (o4.ok okM.out)
  clear o4
  replace Hr0 := Lib.hid (Hr0.out.below b4)
  replace Hr1 := Lib.hid (Hr1.out.below b4)
  replace Hr2 := Lib.hid (Hr2.out.below b4)
  replace R2 := Lib.hid (R2.out.below b4)
  replace R3 := Lib.hid (R3.out.below b4)
  replace B := Lib.hid (B.out.trans (b4.mono B.out.size))
  clear b4
  go_wp2_with fail
  refine (calls_is (mul_any _ _ _ _ _ _ _ Hr1.out Hr0.out m1 m0) HM'.out).mono ?_
  rintro e W5 ⟨A5', c5, rfl, o5, b5⟩
  have R5 := Lib.hid (o5.ok okM.out)
  clear o5
  replace Hr0 := Lib.hid (Hr0.out.below b5)
  replace Hr1 := Lib.hid (Hr1.out.below b5)
  replace Hr2 := Lib.hid (Hr2.out.below b5)
  replace R2 := Lib.hid (R2.out.below b5)
  replace R3 := Lib.hid (R3.out.below b5)
  replace R4 := Lib.hid (R4.out.below b5)
  replace B := Lib.hid (B.out.trans (b5.mono B.out.size))
  clear b5
  go_wp2_with fail
  refine (same_self _ _ _ _ _ _ R2.out R3.out okA.out.max).mono ?_
  rintro e W6 ⟨rfl, g6⟩
  have b6 := g6.below
  clear g6
  replace Hr0 := Lib.hid (Hr0.out.below b6)
  replace Hr1 := Lib.hid (Hr1.out.below b6)
  replace Hr2 := Lib.hid (Hr2.out.below b6)
  replace R2 := Lib.hid (R2.out.below b6)
  replace R3 := Lib.hid (R3.out.below b6)
  replace R4 := Lib.hid (R4.out.below b6)
  replace R5 := Lib.hid (R5.out.below b6)
  replace B := Lib.hid (B.out.trans (b6.mono B.out.size))
  clear b6
  go_wp2_with fail
  refine (same_self _ _ _ _ _ _ R4.out R5.out okM.out.max).mono ?_
  rintro e W7 ⟨rfl, g7⟩
  have b7 := g7.below
  clear g7
  replace Hr0 := Lib.hid (Hr0.out.below b7)
  replace Hr1 := Lib.hid (Hr1.out.below b7)
  replace Hr2 := Lib.hid (Hr2.out.below b7)
  replace R2 := Lib.hid (R2.out.below b7)
  replace R3 := Lib.hid (R3.out.below b7)
  replace R4 := Lib.hid (R4.out.below b7)
  replace R5 := Lib.hid (R5.out.below b7)
  replace B := Lib.hid (B.out.trans (b7.mono B.out.size))
  clear b7
  by_cases he : e = 0
  rotate_left
  · have ha : a = [] := by have := addR_else (t := 1) (p := a0) (q := a1) (by rw [HS.out]; exact he); rwa [HS.out] at this
    subst ha
    go_wp2
    go_ret
    exact ⟨rfl, B.out⟩
  subst he
  have Hz := Lib.hid (show (addR 1 a0 a1).2 = 0 by rw [HS.out])
  have h3 := ring3 U0.out U1.out Hz.out
  have h4 := ring4 U0.out U1.out Hz.out
  have h5 := ring5 Hz.out
  have h6 := ring6 U0.out U1.out U2.out Hz.out
  rw [HS.out] at h3 h4 h5 h6
  have H3 := Lib.hid h3
  have H4 := Lib.hid h4
  have H5 := Lib.hid h5
  have H6 := Lib.hid h6
  clear h3 h4 h5 h6
  have okP := Lib.hid (show Okl a0 from ⟨((right_iff _).1 (addR_ok Hz.out).1).1, U0.out⟩)
  go_wp2_with fail
  refine (calls_is (sub_any _ _ _ _ _ _ _ R2.out Hr1.out okA.out.max m1) H3.out).mono ?_
  rintro e W8 ⟨A8', c8, rfl, o8, b8⟩
  have R8 := Lib.hid (o8.ok okP.out)
  clear o8
  replace Hr0 := Lib.hid (Hr0.out.below b8)
  replace Hr1 := Lib.hid (Hr1.out.below b8)
  replace Hr2 := Lib.hid (Hr2.out.below b8)
  replace R2 := Lib.hid (R2.out.below b8)
  replace R3 := Lib.hid (R3.out.below b8)
  replace R4 := Lib.hid (R4.out.below b8)
  replace R5 := Lib.hid (R5.out.below b8)
  replace B := Lib.hid (B.out.trans (b8.mono B.out.size))
  clear b8
  go_wp2_with fail
  refine (calls_is (sub_any _ _ _ _ _ _ _ R2.out R2.out okA.out.max okA.out.max) H4.out).mono ?_
  rintro e W9 ⟨A9', c9, rfl, o9, b9⟩
  have R9 := Lib.hid (o9.ok Okl.nil)
  clear o9
  replace Hr0 := Lib.hid (Hr0.out.below b9)
  replace Hr1 := Lib.hid (Hr1.out.below b9)
  replace Hr2 := Lib.hid (Hr2.out.below b9)
  replace R2 := Lib.hid (R2.out.below b9)
  replace R3 := Lib.hid (R3.out.below b9)
  replace R4 := Lib.hid (R4.out.below b9)
  replace R5 := Lib.hid (R5.out.below b9)
  replace R8 := Lib.hid (R8.out.below b9)
  replace B := Lib.hid (B.out.trans (b9.mono B.out.size))
  clear b9
  go_wp2_with fail
  refine (same_self _ _ _ _ _ _ R8.out Hr0.out m0).mono ?_
  rintro e W10 ⟨rfl, g10⟩
  have b10 := g10.below
  clear g10
  replace Hr0 := Lib.hid (Hr0.out.below b10)
  replace Hr1 := Lib.hid (Hr1.out.below b10)
  replace Hr2 := Lib.hid (Hr2.out.below b10)
  replace R2 := Lib.hid (R2.out.below b10)
  replace R3 := Lib.hid (R3.out.below b10)
  replace R4 := Lib.hid (R4.out.below b10)
  replace R5 := Lib.hid (R5.out.below b10)
  replace R8 := Lib.hid (R8.out.below b10)
  replace R9 := Lib.hid (R9.out.below b10)
  replace B := Lib.hid (B.out.trans (b10.mono B.out.size))
  clear b10
  go_wp2_with fail
  refine (right_is _ _ _ _ R2.out okA.out.max H5.out).mono ?_
  rintro e W11 ⟨rfl, g11⟩
  have b11 := g11.below
  clear g11
  replace Hr0 := Lib.hid (Hr0.out.below b11)
  replace Hr1 := Lib.hid (Hr1.out.below b11)
  replace Hr2 := Lib.hid (Hr2.out.below b11)
  replace R2 := Lib.hid (R2.out.below b11)
  replace R3 := Lib.hid (R3.out.below b11)
  replace R4 := Lib.hid (R4.out.below b11)
  replace R5 := Lib.hid (R5.out.below b11)
  replace R8 := Lib.hid (R8.out.below b11)
  replace R9 := Lib.hid (R9.out.below b11)
  replace B := Lib.hid (B.out.trans (b11.mono B.out.size))
  clear b11
  obtain ⟨l, i, hL⟩ : ∃ l i, mulR a a2 = (l, i) := ⟨_, _, rfl⟩
  obtain ⟨x, j, hX⟩ : ∃ x j, mulR a0 a2 = (x, j) := ⟨_, _, rfl⟩
  obtain ⟨y, k, hY⟩ : ∃ y k, mulR a1 a2 = (y, k) := ⟨_, _, rfl⟩
  have okL := Lib.hid (show Okl l from by have := mul_ok okA.out.2 U2.out; rwa [hL] at this)
  have okX := Lib.hid (show Okl x from by have := mul_ok U0.out U2.out; rwa [hX] at this)
  have okY := Lib.hid (show Okl y from by have := mul_ok U1.out U2.out; rwa [hY] at this)
  have HL := Lib.hid hL
  have HX := Lib.hid hX
  have HY := Lib.hid hY
  clear hL hX hY
  go_wp2_with fail
  refine (calls_is (mul_any _ _ _ _ _ _ _ R2.out Hr2.out okA.out.max m2) HL.out).mono ?_
  rintro e W12 ⟨A12', c12, rfl, o12, b12⟩
  have R12 := Lib.hid (o12.ok okL.out)
  clear o12
  replace Hr0 := Lib.hid (Hr0.out.below b12)
  replace Hr1 := Lib.hid (Hr1.out.below b12)
  replace Hr2 := Lib.hid (Hr2.out.below b12)
  replace R2 := Lib.hid (R2.out.below b12)
  replace R3 := Lib.hid (R3.out.below b12)
  replace R4 := Lib.hid (R4.out.below b12)
  replace R5 := Lib.hid (R5.out.below b12)
  replace R8 := Lib.hid (R8.out.below b12)
  replace R9 := Lib.hid (R9.out.below b12)
  replace B := Lib.hid (B.out.trans (b12.mono B.out.size))
  clear b12
  go_wp2_with fail
  refine (calls_is (mul_any _ _ _ _ _ _ _ Hr0.out Hr2.out m0 m2) HX.out).mono ?_
  rintro e W13 ⟨A13', c13, rfl, o13, b13⟩
  have R13 := Lib.hid (o13.ok okX.out)
  clear o13
  replace Hr0 := Lib.hid (Hr0.out.below b13)
  replace Hr1 := Lib.hid (Hr1.out.below b13)
  replace Hr2 := Lib.hid (Hr2.out.below b13)
  replace R2 := Lib.hid (R2.out.below b13)
  replace R3 := Lib.hid (R3.out.below b13)
  replace R4 := Lib.hid (R4.out.below b13)
  replace R5 := Lib.hid (R5.out.below b13)
  replace R8 := Lib.hid (R8.out.below b13)
  replace R9 := Lib.hid (R9.out.below b13)
  replace R12 := Lib.hid (R12.out.below b13)
  replace B := Lib.hid (B.out.trans (b13.mono B.out.size))
  clear b13
  go_wp2_with fail
  refine (calls_is (mul_any _ _ _ _ _ _ _ Hr1.out Hr2.out m1 m2) HY.out).mono ?_
  rintro e W14 ⟨A14', c14, rfl, o14, b14⟩
  have R14 := Lib.hid (o14.ok okY.out)
  clear o14
  replace Hr0 := Lib.hid (Hr0.out.below b14)
  replace Hr1 := Lib.hid (Hr1.out.below b14)
  replace Hr2 := Lib.hid (Hr2.out.below b14)
  replace R2 := Lib.hid (R2.out.below b14)
  replace R3 := Lib.hid (R3.out.below b14)
  replace R4 := Lib.hid (R4.out.below b14)
  replace R5 := Lib.hid (R5.out.below b14)
  replace R8 := Lib.hid (R8.out.below b14)
  replace R9 := Lib.hid (R9.out.below b14)
  replace R12 := Lib.hid (R12.out.below b14)
  replace R13 := Lib.hid (R13.out.below b14)
  replace B := Lib.hid (B.out.trans (b14.mono B.out.size))
  clear b14
  by_cases hi : i = 0
  rotate_left
  · go_wp2
    go_ret
    exact ⟨rfl, B.out⟩
  subst hi
  by_cases hj : j = 0
  rotate_left
  · go_wp2
    go_ret
    exact ⟨rfl, B.out⟩
  subst hj
  by_cases hk : k = 0
  rotate_left
  · go_wp2
    go_ret
    exact ⟨rfl, B.out⟩
  subst hk
  have h6 := H6.out
  rw [HL.out, HX.out, HY.out] at h6
  have H7 := Lib.hid (h6 rfl rfl rfl)
  clear h6
  go_wp2_with fail
  refine (calls_is (add_any _ _ _ _ _ _ _ R13.out R14.out okX.out.max okY.out.max) H7.out).mono ?_
  rintro e W15 ⟨A15', c15, rfl, o15, b15⟩
  have R15 := Lib.hid (o15.ok okL.out)
  clear o15
  replace Hr0 := Lib.hid (Hr0.out.below b15)
  replace Hr1 := Lib.hid (Hr1.out.below b15)
  replace Hr2 := Lib.hid (Hr2.out.below b15)
  replace R2 := Lib.hid (R2.out.below b15)
  replace R3 := Lib.hid (R3.out.below b15)
  replace R4 := Lib.hid (R4.out.below b15)
  replace R5 := Lib.hid (R5.out.below b15)
  replace R8 := Lib.hid (R8.out.below b15)
  replace R9 := Lib.hid (R9.out.below b15)
  replace R12 := Lib.hid (R12.out.below b15)
  replace R13 := Lib.hid (R13.out.below b15)
  replace R14 := Lib.hid (R14.out.below b15)
  replace B := Lib.hid (B.out.trans (b15.mono B.out.size))
  clear b15
  go_wp2_with fail
  refine (same_self _ _ _ _ _ _ R12.out R15.out okL.out.max).mono ?_
  rintro e W16 ⟨rfl, g16⟩
  have b16 := g16.below
  clear g16
  replace Hr0 := Lib.hid (Hr0.out.below b16)
  replace Hr1 := Lib.hid (Hr1.out.below b16)
  replace Hr2 := Lib.hid (Hr2.out.below b16)
  replace R2 := Lib.hid (R2.out.below b16)
  replace R3 := Lib.hid (R3.out.below b16)
  replace R4 := Lib.hid (R4.out.below b16)
  replace R5 := Lib.hid (R5.out.below b16)
  replace R8 := Lib.hid (R8.out.below b16)
  replace R9 := Lib.hid (R9.out.below b16)
  replace R12 := Lib.hid (R12.out.below b16)
  replace R13 := Lib.hid (R13.out.below b16)
  replace R14 := Lib.hid (R14.out.below b16)
  replace R15 := Lib.hid (R15.out.below b16)
  replace B := Lib.hid (B.out.trans (b16.mono B.out.size))
  clear b16
  go_wp2
  go_ret
  exact ⟨rfl, B.out⟩

set_option maxRecDepth 100000 in
set_option maxHeartbeats 1000000 in
theorem lifted (os : Os) (started : os.Started) (H : Type) (enc : TypeId × Value → H) :
    ReturnsInHanded {} Try.checked os 8 .any (Rows.polyRingSpec.pre6 enc Try.prog Try.f8 Rows.polyRingRow.domain false) (Rows.polyRingSpec.post enc Try.prog Try.f8 false true false false) := by
  refine returnsInHanded_of_change (C := Try.checked) lawOwn started (by kernel_rfl) Try.func8
    (ChangeSpec.witness6 (enc := enc) (C := Try.checked) false ⟨#[], #[.slice none 0 0, .slice none 0 0, .slice none 0 0], []⟩ 8 (by kernel_rfl) (by kernel_rfl) (by kernel_rfl) (by kernel_rfl)) ?_
  intro W base args ds gs before hval0 hW hcnd _
  have hval : ∀ (j : Nat) t v, Try.f8.params[j]? = some t → args[j]? = some v → Value.okWide Try.prog W .any base t v := hval0
  have hW' := hW
  obtain ⟨p, q, hA0, hV, rfl, hfz, hnd⟩ := hW
  have hA : DataW.TrodAll enc Try.prog W 0 (fun _ => true) true Try.f8.params.toList args.toList ds p := hA0
  rw [Try.params8] at hA hval
  obtain ⟨rfl, rfl⟩ := trodVars_none hV
  simp only [List.append_nil] at hW'
  obtain ⟨v0, vs0, d0, ds0, p0, q0, hargs, rfl, hp, h0, z0⟩ := trodAll_cons hA
  obtain ⟨v1, vs1, d1, ds1, p1, q1, rfl, rfl, rfl, h1, z1⟩ := trodAll_cons z0
  obtain ⟨v2, vs2, d2, ds2, p2, q2, rfl, rfl, rfl, h2, z2⟩ := trodAll_cons z1
  obtain ⟨rfl, rfl, rfl⟩ := trodAll_nil z2
  obtain rfl : args = #[v0, v1, v2] := by cases args; simp_all
  have hback := fun (W' : World) (hg : Below W.heap.size W W') (sp : Nat → Bool) (hs : ∀ q ∈ p, sp q.block = true) => lawArgsB hg (sp := sp) (by kernel_rfl) hA (fun q hq => hW'.lt q hq) hs
  obtain ⟨x0, y0, k0', rfl⟩ := okWide_slice Try.underlying22 (hval 0 22 v0 rfl rfl)
  obtain ⟨fu0, hf0⟩ := h0
  obtain ⟨A0, a0, k0, e0, r0, m0⟩ := open_poly hf0
  simp [Value.cells] at e0
  obtain ⟨rfl, rfl, rfl⟩ := e0
  obtain ⟨x1, y1, k1', rfl⟩ := okWide_slice Try.underlying22 (hval 1 22 v1 rfl rfl)
  obtain ⟨fu1, hf1⟩ := h1
  obtain ⟨A1, a1, k1, e1, r1, m1⟩ := open_poly hf1
  simp [Value.cells] at e1
  obtain ⟨rfl, rfl, rfl⟩ := e1
  obtain ⟨x2, y2, k2', rfl⟩ := okWide_slice Try.underlying22 (hval 2 22 v2 rfl rfl)
  obtain ⟨fu2, hf2⟩ := h2
  obtain ⟨A2, a2, k2, e2, r2, m2⟩ := open_poly hf2
  simp [Value.cells] at e2
  obtain ⟨rfl, rfl, rfl⟩ := e2
  refine (walk _ _ _ _ _ _ _ _ _ W r0 m0 r1 m1 r2 m2).mono fun e W' ⟨he, hg⟩ => ?_
  subst he
  exact ⟨_, rfl, lawPost (pa := p) (pv := []) hW' hg (List.append_nil _).symm (fun _ _ _ => (trodAll_cons_mk (shut_bool Try.underlying4 _) trodAll_mk0)) (fun sp hs => hback W' hg sp hs) (fun _ _ => rfl)
    (ok_one (by kernel_rfl) rfl (okWide_bool_mk Try.underlying4 _))⟩

theorem over : Rows.polyRingRow.holds Try.pinned (OpenSpec.ofChange Rows.polyRingSpec) :=
  OpenClaim.holds_of_wide 8 Try.f8 rfl rfl rfl rfl rfl rfl rfl ⟨rfl, rfl, rfl, rfl, rfl⟩ rfl rfl rfl rfl rfl (by kernel_rfl) Try.func8 (by kernel_rfl)
    (of_decide_eq_true (by kernel_rfl)) (by unfold Func.isWrapper; first | (rw [if_pos (by decide +kernel)]; kernel_rfl) | (rw [if_neg (by decide +kernel)]; exact ⟨rfl, rfl⟩))
    (fun os started H enc _ => lifted os started H enc)

/-- The statement. -/
theorem proved : Rows.PolyRingSaid := over
end Go.Proofs.Ytogflbpphacokaa.polyRing
