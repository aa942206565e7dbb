/- The law PolyValues. -/
import Derived.Test.YtogflbpphacokaaPolyLC
namespace Go.Proofs.Ytogflbpphacokaa.polyValues
open Go.ChangeShapes Go.WideShapes Go.ChangeAt Go.RowKit Go.Joins
set_option linter.unusedVariables false
set_option maxRecDepth 100000 in
set_option maxHeartbeats 8000000 in
theorem walk (A0 : Option Addr) (a0 : List Mo) (k0 : Nat) (A1 : Option Addr) (a1 : List Mo) (k1 : Nat) (A2 : Option Addr) (a2 : List Int) (k2 : Nat) (w : World) (r0 : Rd w w.heap.size A0 a0) (m0 : a0.length ≤ maxLen) (r1 : Rd w w.heap.size A1 a1) (m1 : a1.length ≤ maxLen) (r2 : RdI w w.heap.size A2 a2) (m2 : a2.length ≤ maxLen) :
    Calls Try.prog 9 #[.slice A0 a0.length k0, .slice A1 a1.length k1, .slice A2 a2.length k2] w fun e w' => e = .returned (.bool true) ∧ Below w.heap.size w w' := by
  have U0 := Lib.hid r0.1
  have U1 := Lib.hid r1.1
  obtain ⟨a, e, hE⟩ : ∃ a e, evalR a0 a2 = (a, e) := ⟨_, _, rfl⟩
  obtain ⟨b, f, hF⟩ : ∃ b f, evalR a1 a2 = (b, f) := ⟨_, _, rfl⟩
  have HE := Lib.hid hE
  have HF := Lib.hid hF
  clear hE hF
  have Hr0 := Lib.hid r0
  clear r0
  have Hr1 := Lib.hid r1
  clear r1
  have Hr2 := Lib.hid r2
  clear r2
  go_enter Try.func9, Try.ntmps9
  go_wp2_with fail
  refine (shown_any _).mono ?_
  rintro e W1 ⟨rfl, b1⟩
  replace Hr0 := Lib.hid (Hr0.out.below b1)
  replace Hr1 := Lib.hid (Hr1.out.below b1)
  replace Hr2 := Lib.hid (Hr2.out.below b1)
  have B := Lib.hid b1
  clear b1
  go_wp2_with fail
  refine (evals_is (eval_any _ _ _ _ _ _ _ Hr0.out Hr2.out m0 m2) HE.out).mono ?_
  rintro e W2 ⟨rfl, g2⟩
  have b2 := g2.below
  clear g2
  replace Hr0 := Lib.hid (Hr0.out.below b2)
  replace Hr1 := Lib.hid (Hr1.out.below b2)
  replace Hr2 := Lib.hid (Hr2.out.below b2)
  replace B := Lib.hid (B.out.trans (b2.mono B.out.size))
  clear b2
  go_wp2_with fail
  refine (evals_is (eval_any _ _ _ _ _ _ _ Hr1.out Hr2.out m1 m2) HF.out).mono ?_
  rintro e W3 ⟨rfl, g3⟩
  have b3 := g3.below
  clear g3
  replace Hr0 := Lib.hid (Hr0.out.below b3)
  replace Hr1 := Lib.hid (Hr1.out.below b3)
  replace Hr2 := Lib.hid (Hr2.out.below b3)
  replace B := Lib.hid (B.out.trans (b3.mono B.out.size))
  clear b3
  by_cases he : e = 0
  rotate_left
  · have ha : a = 0 := by have := eval_else (p := a0) (ds := a2) (by rw [HE.out]; exact he); rwa [HE.out] at this
    subst ha
    by_cases hf : f = 0
    · subst hf
      go_wp2
      go_ret
      exact ⟨rfl, B.out⟩
    · have hb : b = 0 := by have := eval_else (p := a1) (ds := a2) (by rw [HF.out]; exact hf); rwa [HF.out] at this
      subst hb
      go_wp2
      go_ret
      exact ⟨rfl, B.out⟩
  subst he
  by_cases hf : f = 0
  rotate_left
  · have hb : b = 0 := by have := eval_else (p := a1) (ds := a2) (by rw [HF.out]; exact hf); rwa [HF.out] at this
    subst hb
    go_wp2
    go_ret
    exact ⟨rfl, B.out⟩
  subst hf
  have ga := eval_good (p := a0) (ds := a2) (by rw [HE.out])
  have gb := eval_good (p := a1) (ds := a2) (by rw [HF.out])
  rw [HE.out] at ga
  rw [HF.out] at gb
  have la : -4611686018427387904 ≤ a ∧ a ≤ 4611686018427387904 := ⟨ga.2.1, ga.2.2.1⟩
  have lb : -4611686018427387904 ≤ b ∧ b ≤ 4611686018427387904 := ⟨gb.2.1, gb.2.2.1⟩
  clear ga gb
  obtain ⟨s, g1, hS⟩ : ∃ s g, addR 1 a0 a1 = (s, g) := ⟨_, _, rfl⟩
  obtain ⟨t, g2, hT⟩ : ∃ s g, addR (-1) a0 a1 = (s, g) := ⟨_, _, rfl⟩
  obtain ⟨u, g3, hU⟩ : ∃ s g, mulR a0 a1 = (s, g) := ⟨_, _, rfl⟩
  obtain ⟨x1, h1, hX⟩ : ∃ x h, evalR s a2 = (x, h) := ⟨_, _, rfl⟩
  obtain ⟨x2, h2, hY⟩ : ∃ x h, evalR t a2 = (x, h) := ⟨_, _, rfl⟩
  obtain ⟨x3, h3, hZ⟩ : ∃ x h, evalR u a2 = (x, h) := ⟨_, _, rfl⟩
  have okS := Lib.hid (show Okl s from by have := add_ok (t := 1) (.inl rfl) U0.out U1.out; rwa [hS] at this)
  have okT := Lib.hid (show Okl t from by have := add_ok (t := -1) (.inr rfl) U0.out U1.out; rwa [hT] at this)
  have okU := Lib.hid (show Okl u from by have := mul_ok U0.out U1.out; rwa [hU] at this)
  have v1 := Lib.hid (show g1 = 0 → h1 = 0 → x1 = a + b ∧ -4611686018427387904 ≤ x1 ∧ x1 ≤ 4611686018427387904 from fun hg hh => by
    have k0 := values_sum (t := 1) U0.out U1.out (by rw [HE.out]) (by rw [HF.out]) (.inl rfl) (by rw [hS]; exact hg) (by rw [hS, hX]; exact hh)
    have k1 := eval_good (p := s) (ds := a2) (by rw [hX]; exact hh)
    rw [hS, HE.out, HF.out, hX] at k0
    rw [hX] at k1
    exact ⟨by have k2 : x1 = a + 1 * b := k0; omega, k1.2.1, k1.2.2.1⟩)
  have v2 := Lib.hid (show g2 = 0 → h2 = 0 → x2 = a - b ∧ -4611686018427387904 ≤ x2 ∧ x2 ≤ 4611686018427387904 from fun hg hh => by
    have k0 := values_sum (t := -1) U0.out U1.out (by rw [HE.out]) (by rw [HF.out]) (.inr rfl) (by rw [hT]; exact hg) (by rw [hT, hY]; exact hh)
    have k1 := eval_good (p := t) (ds := a2) (by rw [hY]; exact hh)
    rw [hT, HE.out, HF.out, hY] at k0
    rw [hY] at k1
    exact ⟨by have k2 : x2 = a + -1 * b := k0; omega, k1.2.1, k1.2.2.1⟩)
  have v3 := Lib.hid (show g3 = 0 → h3 = 0 → x3 = a * b ∧ -4611686018427387904 ≤ x3 ∧ x3 ≤ 4611686018427387904 from fun hg hh => by
    have k0 := values_mul U0.out U1.out (by rw [HE.out]) (by rw [HF.out]) (by rw [hU]; exact hg) (by rw [hU, hZ]; exact hh)
    have k1 := eval_good (p := u) (ds := a2) (by rw [hZ]; exact hh)
    rw [hU, HE.out, HF.out, hZ] at k0
    rw [hZ] at k1
    exact ⟨k0, k1.2.1, k1.2.2.1⟩)
  have n3 := Lib.hid (show ¬ h3 = 0 → x3 = 0 from fun hh => by have k0 := eval_else (p := u) (ds := a2) (by rw [hZ]; exact hh); rwa [hZ] at k0)
  have z3 := Lib.hid (show (a = 0 ∨ b = 0) → g3 = 0 → h3 = 0 → x3 = 0 from fun hab hg hh => by
    have k0 := (v3.out hg hh).1
    rcases hab with rfl | rfl
    · rw [k0, Int.zero_mul]
    · rw [k0, Int.mul_zero])
  have HS := Lib.hid hS
  have HT := Lib.hid hT
  have HU := Lib.hid hU
  have HX := Lib.hid hX
  have HY := Lib.hid hY
  have HZ := Lib.hid hZ
  clear hS hT hU hX hY hZ
  go_wp2_with fail
  refine (calls_is (add_any _ _ _ _ _ _ _ Hr0.out Hr1.out m0 m1) HS.out).mono ?_
  rintro e W4 ⟨A4', c4, rfl, o4, b4⟩
  have R4 := Lib.hid (o4.ok okS.out)
  clear o4
  replace Hr0 := Lib.hid (Hr0.out.below b4)
  replace Hr1 := Lib.hid (Hr1.out.below b4)
  replace Hr2 := Lib.hid (Hr2.out.below b4)
  replace B := Lib.hid (B.out.trans (b4.mono B.out.size))
  clear b4
  go_wp2_with fail
  refine (evals_is (eval_any _ _ _ _ _ _ _ R4.out Hr2.out okS.out.max m2) HX.out).mono ?_
  rintro e W5 ⟨rfl, g5⟩
  have b5 := g5.below
  clear g5
  replace Hr0 := Lib.hid (Hr0.out.below b5)
  replace Hr1 := Lib.hid (Hr1.out.below b5)
  replace Hr2 := Lib.hid (Hr2.out.below b5)
  replace R4 := Lib.hid (R4.out.below b5)
  replace B := Lib.hid (B.out.trans (b5.mono B.out.size))
  clear b5
  by_cases hg1 : g1 = 0
  · subst hg1
    by_cases hh1 : h1 = 0
    · subst hh1
      obtain ⟨p1, p2, p3⟩ := v1.out rfl rfl
      have p4 : x1 - a = b := by omega
      clear p1
      go_wp2_with fail
      refine (calls_is (sub_any _ _ _ _ _ _ _ Hr0.out Hr1.out m0 m1) HT.out).mono ?_
      rintro e W6 ⟨A6', c6, rfl, o6, b6⟩
      have R6 := Lib.hid (o6.ok okT.out)
      clear o6
      replace Hr0 := Lib.hid (Hr0.out.below b6)
      replace Hr1 := Lib.hid (Hr1.out.below b6)
      replace Hr2 := Lib.hid (Hr2.out.below b6)
      replace R4 := Lib.hid (R4.out.below b6)
      replace B := Lib.hid (B.out.trans (b6.mono B.out.size))
      clear b6
      go_wp2_with fail
      refine (evals_is (eval_any _ _ _ _ _ _ _ R6.out Hr2.out okT.out.max m2) HY.out).mono ?_
      rintro e W7 ⟨rfl, g7⟩
      have b7 := g7.below
      clear g7
      replace Hr0 := Lib.hid (Hr0.out.below b7)
      replace Hr1 := Lib.hid (Hr1.out.below b7)
      replace Hr2 := Lib.hid (Hr2.out.below b7)
      replace R4 := Lib.hid (R4.out.below b7)
      replace R6 := Lib.hid (R6.out.below b7)
      replace B := Lib.hid (B.out.trans (b7.mono B.out.size))
      clear b7
      by_cases hg2 : g2 = 0
      · subst hg2
        by_cases hh2 : h2 = 0
        · subst hh2
          obtain ⟨p1, p2, p3⟩ := v2.out rfl rfl
          have p4 : a - x2 = b := by omega
          clear p1
          go_wp2_with fail
          refine (calls_is (mul_any _ _ _ _ _ _ _ Hr0.out Hr1.out m0 m1) HU.out).mono ?_
          rintro e W8 ⟨A8', c8, rfl, o8, b8⟩
          have R8 := Lib.hid (o8.ok okU.out)
          clear o8
          replace Hr0 := Lib.hid (Hr0.out.below b8)
          replace Hr1 := Lib.hid (Hr1.out.below b8)
          replace Hr2 := Lib.hid (Hr2.out.below b8)
          replace R4 := Lib.hid (R4.out.below b8)
          replace R6 := Lib.hid (R6.out.below b8)
          replace B := Lib.hid (B.out.trans (b8.mono B.out.size))
          clear b8
          go_wp2_with fail
          refine (evals_is (eval_any _ _ _ _ _ _ _ R8.out Hr2.out okU.out.max m2) HZ.out).mono ?_
          rintro e W9 ⟨rfl, g9⟩
          have b9 := g9.below
          clear g9
          replace Hr0 := Lib.hid (Hr0.out.below b9)
          replace Hr1 := Lib.hid (Hr1.out.below b9)
          replace Hr2 := Lib.hid (Hr2.out.below b9)
          replace R4 := Lib.hid (R4.out.below b9)
          replace R6 := Lib.hid (R6.out.below b9)
          replace R8 := Lib.hid (R8.out.below b9)
          replace B := Lib.hid (B.out.trans (b9.mono B.out.size))
          clear b9
          by_cases hg3 : g3 = 0
          rotate_left
          · go_wp2
            go_ret
            exact ⟨rfl, B.out⟩
          subst hg3
          by_cases hh3 : h3 = 0
          rotate_left
          · go_wp2
            go_ret
            exact ⟨rfl, B.out⟩
          subst hh3
          by_cases ha : a = 0
          · obtain rfl : x3 = 0 := z3.out (.inl ha) rfl rfl
            go_wp2
            go_ret
            exact ⟨rfl, B.out⟩
          by_cases hb : b = 0
          · obtain rfl : x3 = 0 := z3.out (.inr hb) rfl rfl
            go_wp2
            go_ret
            exact ⟨rfl, B.out⟩
          obtain ⟨q1, q2, q3⟩ := v3.out rfl rfl
          have q4 : Int.tdiv x3 a = b := by rw [q1]; exact Int.mul_tdiv_cancel_left b ha
          have q5 : Int.tmod x3 a = 0 := by rw [q1]; exact Int.mul_tmod_right a b
          clear q1
          have ha' : (a == 0) = false := by simp [ha]
          have hb' : (b == 0) = false := by simp [hb]
          go_wp2
          go_ret
          exact ⟨rfl, B.out⟩
        · clear v2
          go_wp2_with fail
          refine (calls_is (mul_any _ _ _ _ _ _ _ Hr0.out Hr1.out m0 m1) HU.out).mono ?_
          rintro e W8 ⟨A8', c8, rfl, o8, b8⟩
          have R8 := Lib.hid (o8.ok okU.out)
          clear o8
          replace Hr0 := Lib.hid (Hr0.out.below b8)
          replace Hr1 := Lib.hid (Hr1.out.below b8)
          replace Hr2 := Lib.hid (Hr2.out.below b8)
          replace R4 := Lib.hid (R4.out.below b8)
          replace R6 := Lib.hid (R6.out.below b8)
          replace B := Lib.hid (B.out.trans (b8.mono B.out.size))
          clear b8
          go_wp2_with fail
          refine (evals_is (eval_any _ _ _ _ _ _ _ R8.out Hr2.out okU.out.max m2) HZ.out).mono ?_
          rintro e W9 ⟨rfl, g9⟩
          have b9 := g9.below
          clear g9
          replace Hr0 := Lib.hid (Hr0.out.below b9)
          replace Hr1 := Lib.hid (Hr1.out.below b9)
          replace Hr2 := Lib.hid (Hr2.out.below b9)
          replace R4 := Lib.hid (R4.out.below b9)
          replace R6 := Lib.hid (R6.out.below b9)
          replace R8 := Lib.hid (R8.out.below b9)
          replace B := Lib.hid (B.out.trans (b9.mono B.out.size))
          clear b9
          by_cases hg3 : g3 = 0
          rotate_left
          · go_wp2
            go_ret
            exact ⟨rfl, B.out⟩
          subst hg3
          by_cases hh3 : h3 = 0
          rotate_left
          · go_wp2
            go_ret
            exact ⟨rfl, B.out⟩
          subst hh3
          by_cases ha : a = 0
          · obtain rfl : x3 = 0 := z3.out (.inl ha) rfl rfl
            go_wp2
            go_ret
            exact ⟨rfl, B.out⟩
          by_cases hb : b = 0
          · obtain rfl : x3 = 0 := z3.out (.inr hb) rfl rfl
            go_wp2
            go_ret
            exact ⟨rfl, B.out⟩
          obtain ⟨q1, q2, q3⟩ := v3.out rfl rfl
          have q4 : Int.tdiv x3 a = b := by rw [q1]; exact Int.mul_tdiv_cancel_left b ha
          have q5 : Int.tmod x3 a = 0 := by rw [q1]; exact Int.mul_tmod_right a b
          clear q1
          have ha' : (a == 0) = false := by simp [ha]
          have hb' : (b == 0) = false := by simp [hb]
          go_wp2
          go_ret
          exact ⟨rfl, B.out⟩
      · clear v2
        go_wp2_with fail
        refine (calls_is (mul_any _ _ _ _ _ _ _ Hr0.out Hr1.out m0 m1) HU.out).mono ?_
        rintro e W8 ⟨A8', c8, rfl, o8, b8⟩
        have R8 := Lib.hid (o8.ok okU.out)
        clear o8
        replace Hr0 := Lib.hid (Hr0.out.below b8)
        replace Hr1 := Lib.hid (Hr1.out.below b8)
        replace Hr2 := Lib.hid (Hr2.out.below b8)
        replace R4 := Lib.hid (R4.out.below b8)
        replace R6 := Lib.hid (R6.out.below b8)
        replace B := Lib.hid (B.out.trans (b8.mono B.out.size))
        clear b8
        go_wp2_with fail
        refine (evals_is (eval_any _ _ _ _ _ _ _ R8.out Hr2.out okU.out.max m2) HZ.out).mono ?_
        rintro e W9 ⟨rfl, g9⟩
        have b9 := g9.below
        clear g9
        replace Hr0 := Lib.hid (Hr0.out.below b9)
        replace Hr1 := Lib.hid (Hr1.out.below b9)
        replace Hr2 := Lib.hid (Hr2.out.below b9)
        replace R4 := Lib.hid (R4.out.below b9)
        replace R6 := Lib.hid (R6.out.below b9)
        replace R8 := Lib.hid (R8.out.below b9)
        replace B := Lib.hid (B.out.trans (b9.mono B.out.size))
        clear b9
        by_cases hg3 : g3 = 0
        rotate_left
        · go_wp2
          go_ret
          exact ⟨rfl, B.out⟩
        subst hg3
        by_cases hh3 : h3 = 0
        rotate_left
        · go_wp2
          go_ret
          exact ⟨rfl, B.out⟩
        subst hh3
        by_cases ha : a = 0
        · obtain rfl : x3 = 0 := z3.out (.inl ha) rfl rfl
          go_wp2
          go_ret
          exact ⟨rfl, B.out⟩
        by_cases hb : b = 0
        · obtain rfl : x3 = 0 := z3.out (.inr hb) rfl rfl
          go_wp2
          go_ret
          exact ⟨rfl, B.out⟩
        obtain ⟨q1, q2, q3⟩ := v3.out rfl rfl
        have q4 : Int.tdiv x3 a = b := by rw [q1]; exact Int.mul_tdiv_cancel_left b ha
        have q5 : Int.tmod x3 a = 0 := by rw [q1]; exact Int.mul_tmod_right a b
        clear q1
        have ha' : (a == 0) = false := by simp [ha]
        have hb' : (b == 0) = false := by simp [hb]
        go_wp2
        go_ret
        exact ⟨rfl, B.out⟩
    · clear v1
      go_wp2_with fail
      refine (calls_is (sub_any _ _ _ _ _ _ _ Hr0.out Hr1.out m0 m1) HT.out).mono ?_
      rintro e W6 ⟨A6', c6, rfl, o6, b6⟩
      have R6 := Lib.hid (o6.ok okT.out)
      clear o6
      replace Hr0 := Lib.hid (Hr0.out.below b6)
      replace Hr1 := Lib.hid (Hr1.out.below b6)
      replace Hr2 := Lib.hid (Hr2.out.below b6)
      replace R4 := Lib.hid (R4.out.below b6)
      replace B := Lib.hid (B.out.trans (b6.mono B.out.size))
      clear b6
      go_wp2_with fail
      refine (evals_is (eval_any _ _ _ _ _ _ _ R6.out Hr2.out okT.out.max m2) HY.out).mono ?_
      rintro e W7 ⟨rfl, g7⟩
      have b7 := g7.below
      clear g7
      replace Hr0 := Lib.hid (Hr0.out.below b7)
      replace Hr1 := Lib.hid (Hr1.out.below b7)
      replace Hr2 := Lib.hid (Hr2.out.below b7)
      replace R4 := Lib.hid (R4.out.below b7)
      replace R6 := Lib.hid (R6.out.below b7)
      replace B := Lib.hid (B.out.trans (b7.mono B.out.size))
      clear b7
      by_cases hg2 : g2 = 0
      · subst hg2
        by_cases hh2 : h2 = 0
        · subst hh2
          obtain ⟨p1, p2, p3⟩ := v2.out rfl rfl
          have p4 : a - x2 = b := by omega
          clear p1
          go_wp2_with fail
          refine (calls_is (mul_any _ _ _ _ _ _ _ Hr0.out Hr1.out m0 m1) HU.out).mono ?_
          rintro e W8 ⟨A8', c8, rfl, o8, b8⟩
          have R8 := Lib.hid (o8.ok okU.out)
          clear o8
          replace Hr0 := Lib.hid (Hr0.out.below b8)
          replace Hr1 := Lib.hid (Hr1.out.below b8)
          replace Hr2 := Lib.hid (Hr2.out.below b8)
          replace R4 := Lib.hid (R4.out.below b8)
          replace R6 := Lib.hid (R6.out.below b8)
          replace B := Lib.hid (B.out.trans (b8.mono B.out.size))
          clear b8
          go_wp2_with fail
          refine (evals_is (eval_any _ _ _ _ _ _ _ R8.out Hr2.out okU.out.max m2) HZ.out).mono ?_
          rintro e W9 ⟨rfl, g9⟩
          have b9 := g9.below
          clear g9
          replace Hr0 := Lib.hid (Hr0.out.below b9)
          replace Hr1 := Lib.hid (Hr1.out.below b9)
          replace Hr2 := Lib.hid (Hr2.out.below b9)
          replace R4 := Lib.hid (R4.out.below b9)
          replace R6 := Lib.hid (R6.out.below b9)
          replace R8 := Lib.hid (R8.out.below b9)
          replace B := Lib.hid (B.out.trans (b9.mono B.out.size))
          clear b9
          by_cases hg3 : g3 = 0
          rotate_left
          · go_wp2
            go_ret
            exact ⟨rfl, B.out⟩
          subst hg3
          by_cases hh3 : h3 = 0
          rotate_left
          · go_wp2
            go_ret
            exact ⟨rfl, B.out⟩
          subst hh3
          by_cases ha : a = 0
          · obtain rfl : x3 = 0 := z3.out (.inl ha) rfl rfl
            go_wp2
            go_ret
            exact ⟨rfl, B.out⟩
          by_cases hb : b = 0
          · obtain rfl : x3 = 0 := z3.out (.inr hb) rfl rfl
            go_wp2
            go_ret
            exact ⟨rfl, B.out⟩
          obtain ⟨q1, q2, q3⟩ := v3.out rfl rfl
          have q4 : Int.tdiv x3 a = b := by rw [q1]; exact Int.mul_tdiv_cancel_left b ha
          have q5 : Int.tmod x3 a = 0 := by rw [q1]; exact Int.mul_tmod_right a b
          clear q1
          have ha' : (a == 0) = false := by simp [ha]
          have hb' : (b == 0) = false := by simp [hb]
          go_wp2
          go_ret
          exact ⟨rfl, B.out⟩
        · clear v2
          go_wp2_with fail
          refine (calls_is (mul_any _ _ _ _ _ _ _ Hr0.out Hr1.out m0 m1) HU.out).mono ?_
          rintro e W8 ⟨A8', c8, rfl, o8, b8⟩
          have R8 := Lib.hid (o8.ok okU.out)
          clear o8
          replace Hr0 := Lib.hid (Hr0.out.below b8)
          replace Hr1 := Lib.hid (Hr1.out.below b8)
          replace Hr2 := Lib.hid (Hr2.out.below b8)
          replace R4 := Lib.hid (R4.out.below b8)
          replace R6 := Lib.hid (R6.out.below b8)
          replace B := Lib.hid (B.out.trans (b8.mono B.out.size))
          clear b8
          go_wp2_with fail
          refine (evals_is (eval_any _ _ _ _ _ _ _ R8.out Hr2.out okU.out.max m2) HZ.out).mono ?_
          rintro e W9 ⟨rfl, g9⟩
          have b9 := g9.below
          clear g9
          replace Hr0 := Lib.hid (Hr0.out.below b9)
          replace Hr1 := Lib.hid (Hr1.out.below b9)
          replace Hr2 := Lib.hid (Hr2.out.below b9)
          replace R4 := Lib.hid (R4.out.below b9)
          replace R6 := Lib.hid (R6.out.below b9)
          replace R8 := Lib.hid (R8.out.below b9)
          replace B := Lib.hid (B.out.trans (b9.mono B.out.size))
          clear b9
          by_cases hg3 : g3 = 0
          rotate_left
          · go_wp2
            go_ret
            exact ⟨rfl, B.out⟩
          subst hg3
          by_cases hh3 : h3 = 0
          rotate_left
          · go_wp2
            go_ret
            exact ⟨rfl, B.out⟩
          subst hh3
          by_cases ha : a = 0
          · obtain rfl : x3 = 0 := z3.out (.inl ha) rfl rfl
            go_wp2
            go_ret
            exact ⟨rfl, B.out⟩
          by_cases hb : b = 0
          · obtain rfl : x3 = 0 := z3.out (.inr hb) rfl rfl
            go_wp2
            go_ret
            exact ⟨rfl, B.out⟩
          obtain ⟨q1, q2, q3⟩ := v3.out rfl rfl
          have q4 : Int.tdiv x3 a = b := by rw [q1]; exact Int.mul_tdiv_cancel_left b ha
          have q5 : Int.tmod x3 a = 0 := by rw [q1]; exact Int.mul_tmod_right a b
          clear q1
          have ha' : (a == 0) = false := by simp [ha]
          have hb' : (b == 0) = false := by simp [hb]
          go_wp2
          go_ret
          exact ⟨rfl, B.out⟩
      · clear v2
        go_wp2_with fail
        refine (calls_is (mul_any _ _ _ _ _ _ _ Hr0.out Hr1.out m0 m1) HU.out).mono ?_
        rintro e W8 ⟨A8', c8, rfl, o8, b8⟩
        have R8 := Lib.hid (o8.ok okU.out)
        clear o8
        replace Hr0 := Lib.hid (Hr0.out.below b8)
        replace Hr1 := Lib.hid (Hr1.out.below b8)
        replace Hr2 := Lib.hid (Hr2.out.below b8)
        replace R4 := Lib.hid (R4.out.below b8)
        replace R6 := Lib.hid (R6.out.below b8)
        replace B := Lib.hid (B.out.trans (b8.mono B.out.size))
        clear b8
        go_wp2_with fail
        refine (evals_is (eval_any _ _ _ _ _ _ _ R8.out Hr2.out okU.out.max m2) HZ.out).mono ?_
        rintro e W9 ⟨rfl, g9⟩
        have b9 := g9.below
        clear g9
        replace Hr0 := Lib.hid (Hr0.out.below b9)
        replace Hr1 := Lib.hid (Hr1.out.below b9)
        replace Hr2 := Lib.hid (Hr2.out.below b9)
        replace R4 := Lib.hid (R4.out.below b9)
        replace R6 := Lib.hid (R6.out.below b9)
        replace R8 := Lib.hid (R8.out.below b9)
        replace B := Lib.hid (B.out.trans (b9.mono B.out.size))
        clear b9
        by_cases hg3 : g3 = 0
        rotate_left
        · go_wp2
          go_ret
          exact ⟨rfl, B.out⟩
        subst hg3
        by_cases hh3 : h3 = 0
        rotate_left
        · go_wp2
          go_ret
          exact ⟨rfl, B.out⟩
        subst hh3
        by_cases ha : a = 0
        · obtain rfl : x3 = 0 := z3.out (.inl ha) rfl rfl
          go_wp2
          go_ret
          exact ⟨rfl, B.out⟩
        by_cases hb : b = 0
        · obtain rfl : x3 = 0 := z3.out (.inr hb) rfl rfl
          go_wp2
          go_ret
          exact ⟨rfl, B.out⟩
        obtain ⟨q1, q2, q3⟩ := v3.out rfl rfl
        have q4 : Int.tdiv x3 a = b := by rw [q1]; exact Int.mul_tdiv_cancel_left b ha
        have q5 : Int.tmod x3 a = 0 := by rw [q1]; exact Int.mul_tmod_right a b
        clear q1
        have ha' : (a == 0) = false := by simp [ha]
        have hb' : (b == 0) = false := by simp [hb]
        go_wp2
        go_ret
        exact ⟨rfl, B.out⟩
  · clear v1
    go_wp2_with fail
    refine (calls_is (sub_any _ _ _ _ _ _ _ Hr0.out Hr1.out m0 m1) HT.out).mono ?_
    rintro e W6 ⟨A6', c6, rfl, o6, b6⟩
    have R6 := Lib.hid (o6.ok okT.out)
    clear o6
    replace Hr0 := Lib.hid (Hr0.out.below b6)
    replace Hr1 := Lib.hid (Hr1.out.below b6)
    replace Hr2 := Lib.hid (Hr2.out.below b6)
    replace R4 := Lib.hid (R4.out.below b6)
    replace B := Lib.hid (B.out.trans (b6.mono B.out.size))
    clear b6
    go_wp2_with fail
    refine (evals_is (eval_any _ _ _ _ _ _ _ R6.out Hr2.out okT.out.max m2) HY.out).mono ?_
    rintro e W7 ⟨rfl, g7⟩
    have b7 := g7.below
    clear g7
    replace Hr0 := Lib.hid (Hr0.out.below b7)
    replace Hr1 := Lib.hid (Hr1.out.below b7)
    replace Hr2 := Lib.hid (Hr2.out.below b7)
    replace R4 := Lib.hid (R4.out.below b7)
    replace R6 := Lib.hid (R6.out.below b7)
    replace B := Lib.hid (B.out.trans (b7.mono B.out.size))
    clear b7
    by_cases hg2 : g2 = 0
    · subst hg2
      by_cases hh2 : h2 = 0
      · subst hh2
        obtain ⟨p1, p2, p3⟩ := v2.out rfl rfl
        have p4 : a - x2 = b := by omega
        clear p1
        go_wp2_with fail
        refine (calls_is (mul_any _ _ _ _ _ _ _ Hr0.out Hr1.out m0 m1) HU.out).mono ?_
        rintro e W8 ⟨A8', c8, rfl, o8, b8⟩
        have R8 := Lib.hid (o8.ok okU.out)
        clear o8
        replace Hr0 := Lib.hid (Hr0.out.below b8)
        replace Hr1 := Lib.hid (Hr1.out.below b8)
        replace Hr2 := Lib.hid (Hr2.out.below b8)
        replace R4 := Lib.hid (R4.out.below b8)
        replace R6 := Lib.hid (R6.out.below b8)
        replace B := Lib.hid (B.out.trans (b8.mono B.out.size))
        clear b8
        go_wp2_with fail
        refine (evals_is (eval_any _ _ _ _ _ _ _ R8.out Hr2.out okU.out.max m2) HZ.out).mono ?_
        rintro e W9 ⟨rfl, g9⟩
        have b9 := g9.below
        clear g9
        replace Hr0 := Lib.hid (Hr0.out.below b9)
        replace Hr1 := Lib.hid (Hr1.out.below b9)
        replace Hr2 := Lib.hid (Hr2.out.below b9)
        replace R4 := Lib.hid (R4.out.below b9)
        replace R6 := Lib.hid (R6.out.below b9)
        replace R8 := Lib.hid (R8.out.below b9)
        replace B := Lib.hid (B.out.trans (b9.mono B.out.size))
        clear b9
        by_cases hg3 : g3 = 0
        rotate_left
        · go_wp2
          go_ret
          exact ⟨rfl, B.out⟩
        subst hg3
        by_cases hh3 : h3 = 0
        rotate_left
        · go_wp2
          go_ret
          exact ⟨rfl, B.out⟩
        subst hh3
        by_cases ha : a = 0
        · obtain rfl : x3 = 0 := z3.out (.inl ha) rfl rfl
          go_wp2
          go_ret
          exact ⟨rfl, B.out⟩
        by_cases hb : b = 0
        · obtain rfl : x3 = 0 := z3.out (.inr hb) rfl rfl
          go_wp2
          go_ret
          exact ⟨rfl, B.out⟩
        obtain ⟨q1, q2, q3⟩ := v3.out rfl rfl
        have q4 : Int.tdiv x3 a = b := by rw [q1]; exact Int.mul_tdiv_cancel_left b ha
        have q5 : Int.tmod x3 a = 0 := by rw [q1]; exact Int.mul_tmod_right a b
        clear q1
        have ha' : (a == 0) = false := by simp [ha]
        have hb' : (b == 0) = false := by simp [hb]
        go_wp2
        go_ret
        exact ⟨rfl, B.out⟩
      · clear v2
        go_wp2_with fail
        refine (calls_is (mul_any _ _ _ _ _ _ _ Hr0.out Hr1.out m0 m1) HU.out).mono ?_
        rintro e W8 ⟨A8', c8, rfl, o8, b8⟩
        have R8 := Lib.hid (o8.ok okU.out)
        clear o8
        replace Hr0 := Lib.hid (Hr0.out.below b8)
        replace Hr1 := Lib.hid (Hr1.out.below b8)
        replace Hr2 := Lib.hid (Hr2.out.below b8)
        replace R4 := Lib.hid (R4.out.below b8)
        replace R6 := Lib.hid (R6.out.below b8)
        replace B := Lib.hid (B.out.trans (b8.mono B.out.size))
        clear b8
        go_wp2_with fail
        refine (evals_is (eval_any _ _ _ _ _ _ _ R8.out Hr2.out okU.out.max m2) HZ.out).mono ?_
        rintro e W9 ⟨rfl, g9⟩
        have b9 := g9.below
        clear g9
        replace Hr0 := Lib.hid (Hr0.out.below b9)
        replace Hr1 := Lib.hid (Hr1.out.below b9)
        replace Hr2 := Lib.hid (Hr2.out.below b9)
        replace R4 := Lib.hid (R4.out.below b9)
        replace R6 := Lib.hid (R6.out.below b9)
        replace R8 := Lib.hid (R8.out.below b9)
        replace B := Lib.hid (B.out.trans (b9.mono B.out.size))
        clear b9
        by_cases hg3 : g3 = 0
        rotate_left
        · go_wp2
          go_ret
          exact ⟨rfl, B.out⟩
        subst hg3
        by_cases hh3 : h3 = 0
        rotate_left
        · go_wp2
          go_ret
          exact ⟨rfl, B.out⟩
        subst hh3
        by_cases ha : a = 0
        · obtain rfl : x3 = 0 := z3.out (.inl ha) rfl rfl
          go_wp2
          go_ret
          exact ⟨rfl, B.out⟩
        by_cases hb : b = 0
        · obtain rfl : x3 = 0 := z3.out (.inr hb) rfl rfl
          go_wp2
          go_ret
          exact ⟨rfl, B.out⟩
        obtain ⟨q1, q2, q3⟩ := v3.out rfl rfl
        have q4 : Int.tdiv x3 a = b := by rw [q1]; exact Int.mul_tdiv_cancel_left b ha
        have q5 : Int.tmod x3 a = 0 := by rw [q1]; exact Int.mul_tmod_right a b
        clear q1
        have ha' : (a == 0) = false := by simp [ha]
        have hb' : (b == 0) = false := by simp [hb]
        go_wp2
        go_ret
        exact ⟨rfl, B.out⟩
    · clear v2
      go_wp2_with fail
      refine (calls_is (mul_any _ _ _ _ _ _ _ Hr0.out Hr1.out m0 m1) HU.out).mono ?_
      rintro e W8 ⟨A8', c8, rfl, o8, b8⟩
      have R8 := Lib.hid (o8.ok okU.out)
      clear o8
      replace Hr0 := Lib.hid (Hr0.out.below b8)
      replace Hr1 := Lib.hid (Hr1.out.below b8)
      replace Hr2 := Lib.hid (Hr2.out.below b8)
      replace R4 := Lib.hid (R4.out.below b8)
      replace R6 := Lib.hid (R6.out.below b8)
      replace B := Lib.hid (B.out.trans (b8.mono B.out.size))
      clear b8
      go_wp2_with fail
      refine (evals_is (eval_any _ _ _ _ _ _ _ R8.out Hr2.out okU.out.max m2) HZ.out).mono ?_
      rintro e W9 ⟨rfl, g9⟩
      have b9 := g9.below
      clear g9
      replace Hr0 := Lib.hid (Hr0.out.below b9)
      replace Hr1 := Lib.hid (Hr1.out.below b9)
      replace Hr2 := Lib.hid (Hr2.out.below b9)
      replace R4 := Lib.hid (R4.out.below b9)
      replace R6 := Lib.hid (R6.out.below b9)
      replace R8 := Lib.hid (R8.out.below b9)
      replace B := Lib.hid (B.out.trans (b9.mono B.out.size))
      clear b9
      by_cases hg3 : g3 = 0
      rotate_left
      · go_wp2
        go_ret
        exact ⟨rfl, B.out⟩
      subst hg3
      by_cases hh3 : h3 = 0
      rotate_left
      · go_wp2
        go_ret
        exact ⟨rfl, B.out⟩
      subst hh3
      by_cases ha : a = 0
      · obtain rfl : x3 = 0 := z3.out (.inl ha) rfl rfl
        go_wp2
        go_ret
        exact ⟨rfl, B.out⟩
      by_cases hb : b = 0
      · obtain rfl : x3 = 0 := z3.out (.inr hb) rfl rfl
        go_wp2
        go_ret
        exact ⟨rfl, B.out⟩
      obtain ⟨q1, q2, q3⟩ := v3.out rfl rfl
      have q4 : Int.tdiv x3 a = b := by rw [q1]; exact Int.mul_tdiv_cancel_left b ha
      have q5 : Int.tmod x3 a = 0 := by rw [q1]; exact Int.mul_tmod_right a b
      clear q1
      have ha' : (a == 0) = false := by simp [ha]
      have hb' : (b == 0) = false := by simp [hb]
      go_wp2
      go_ret
      exact ⟨rfl, B.out⟩

set_option maxRecDepth 100000 in
set_option maxHeartbeats 1000000 in
theorem lifted (os : Os) (started : os.Started) (H : Type) (enc : TypeId × Value → H) :
    ReturnsInHanded {} Try.checked os 9 .any (Rows.polyValuesSpec.pre6 enc Try.prog Try.f9 Rows.polyValuesRow.domain false) (Rows.polyValuesSpec.post enc Try.prog Try.f9 false true false false) := by
  refine returnsInHanded_of_change (C := Try.checked) lawOwn started (by kernel_rfl) Try.func9
    (ChangeSpec.witness6 (enc := enc) (C := Try.checked) false ⟨#[], #[.slice none 0 0, .slice none 0 0, .slice none 0 0], []⟩ 8 (by kernel_rfl) (by kernel_rfl) (by kernel_rfl) (by kernel_rfl)) ?_
  intro W base args ds gs before hval0 hW hcnd _
  have hval : ∀ (j : Nat) t v, Try.f9.params[j]? = some t → args[j]? = some v → Value.okWide Try.prog W .any base t v := hval0
  have hW' := hW
  obtain ⟨p, q, hA0, hV, rfl, hfz, hnd⟩ := hW
  have hA : DataW.TrodAll enc Try.prog W 0 (fun _ => true) true Try.f9.params.toList args.toList ds p := hA0
  rw [Try.params9] at hA hval
  obtain ⟨rfl, rfl⟩ := trodVars_none hV
  simp only [List.append_nil] at hW'
  obtain ⟨v0, vs0, d0, ds0, p0, q0, hargs, rfl, hp, h0, z0⟩ := trodAll_cons hA
  obtain ⟨v1, vs1, d1, ds1, p1, q1, rfl, rfl, rfl, h1, z1⟩ := trodAll_cons z0
  obtain ⟨v2, vs2, d2, ds2, p2, q2, rfl, rfl, rfl, h2, z2⟩ := trodAll_cons z1
  obtain ⟨rfl, rfl, rfl⟩ := trodAll_nil z2
  obtain rfl : args = #[v0, v1, v2] := by cases args; simp_all
  have hback := fun (W' : World) (hg : Below W.heap.size W W') (sp : Nat → Bool) (hs : ∀ q ∈ p, sp q.block = true) => lawArgsB hg (sp := sp) (by kernel_rfl) hA (fun q hq => hW'.lt q hq) hs
  obtain ⟨x0, y0, k0', rfl⟩ := okWide_slice Try.underlying22 (hval 0 22 v0 rfl rfl)
  obtain ⟨fu0, hf0⟩ := h0
  obtain ⟨A0, a0, k0, e0, r0, m0⟩ := open_poly hf0
  simp [Value.cells] at e0
  obtain ⟨rfl, rfl, rfl⟩ := e0
  obtain ⟨x1, y1, k1', rfl⟩ := okWide_slice Try.underlying22 (hval 1 22 v1 rfl rfl)
  obtain ⟨fu1, hf1⟩ := h1
  obtain ⟨A1, a1, k1, e1, r1, m1⟩ := open_poly hf1
  simp [Value.cells] at e1
  obtain ⟨rfl, rfl, rfl⟩ := e1
  obtain ⟨x2, y2, k2', rfl⟩ := okWide_slice Try.underlying33 (hval 2 33 v2 rfl rfl)
  obtain ⟨fu2, hf2⟩ := h2
  obtain ⟨A2, a2, k2, e2, r2, m2⟩ := open_nums hf2
  simp [Value.cells] at e2
  obtain ⟨rfl, rfl, rfl⟩ := e2
  refine (walk _ _ _ _ _ _ _ _ _ W r0 m0 r1 m1 r2 m2).mono fun e W' ⟨he, hg⟩ => ?_
  subst he
  exact ⟨_, rfl, lawPost (pa := p) (pv := []) hW' hg (List.append_nil _).symm (fun _ _ _ => (trodAll_cons_mk (shut_bool Try.underlying4 _) trodAll_mk0)) (fun sp hs => hback W' hg sp hs) (fun _ _ => rfl)
    (ok_one (by kernel_rfl) rfl (okWide_bool_mk Try.underlying4 _))⟩

theorem over : Rows.polyValuesRow.holds Try.pinned (OpenSpec.ofChange Rows.polyValuesSpec) :=
  OpenClaim.holds_of_wide 9 Try.f9 rfl rfl rfl rfl rfl rfl rfl ⟨rfl, rfl, rfl, rfl, rfl⟩ rfl rfl rfl rfl rfl (by kernel_rfl) Try.func9 (by kernel_rfl)
    (of_decide_eq_true (by kernel_rfl)) (by unfold Func.isWrapper; first | (rw [if_pos (by decide +kernel)]; kernel_rfl) | (rw [if_neg (by decide +kernel)]; exact ⟨rfl, rfl⟩))
    (fun os started H enc _ => lifted os started H enc)

/-- The statement. -/
theorem proved : Rows.PolyValuesSaid := over
end Go.Proofs.Ytogflbpphacokaa.polyValues
