/- WordDivides: a number is its quotient times the divisor and its residue, which lies on the divisor's side of 0: for any two numbers. -/
import Derived.Test.YtajlpngbnnbblaaLift
import Derived.Test.YtajlpngbnnbblaaWordG
import Derived.Lib.SmallJoins
namespace Go.Proofs.Ytajlpngbnnbblaa.wordDivides
open Go.ChangeShapes Go.WideShapes Go.ChangeAt Go.RowKit Go.Joins
set_option linter.unusedVariables false
set_option maxRecDepth 100000 in
set_option maxHeartbeats 1000000 in
theorem walk (a0 : Int) (a1 : Int) (w0 : (Lit.int .i64 a0).wf = true) (w1 : (Lit.int .i64 a1).wf = true) (w : World) :
    Calls Try.prog 7 #[.int .i64 a0, .int .i64 a1] w fun e w' => e = .returned (.bool true) ∧ Grown w w' := by
  have R0 := Lib.hid (i64_rng w0)
  have R1 := Lib.hid (i64_rng w1)
  clear w0 w1
  have R2 := R0
  by_cases hb : a1 = 0
  · subst hb
    have T1 : dv 4 a0 0 = 0 := rfl
    have T2 : de 4 a0 0 = 11 := rfl
    have T3 : dv 5 0 a0 = a0 := rfl
    have T4 : de 5 0 a0 = 0 := rfl
    have Rx := R0
    have Ry := R0
    go_enter Try.func7, Try.ntmps7
    go_wp2_with (first | (go_at_call 12; refine (shown_any _).mono ?_; rintro e w' ⟨rfl, rfl⟩) | (go_at_call 13; refine (dyad_any _ _ _ (by decide) (by first | exact R0.out | exact R1.out | exact R2.out | exact dv1_rng _ _ | exact dv3_rng _ _ | exact Rx.out | exact Ry.out) (by first | exact R0.out | exact R1.out | exact R2.out | exact dv1_rng _ _ | exact dv3_rng _ _ | exact Rx.out | exact Ry.out) _).mono ?_; rintro e w' ⟨rfl, rfl⟩))
    go_ret
    exact ⟨rfl, Grown.refl _⟩
  · have hb0 : (a1 == 0) = false := by simpa using hb
    have T2 : de 4 a0 a1 = 0 := by simp [de, hb]
    have T4 : de 5 a1 a0 = 0 := rfl
    have Rx := Lib.hid (dv4_rng a0 a1)
    have Ry := Lib.hid (dv5_rng a0 a1 R0.out R1.out)
    have T5 := div_back a0 a1 hb R0.out
    have hs := rs_side a0 a1 hb
    by_cases hn : a1 < 0
    · rw [if_pos hn] at hs
      have H1 := hs.1
      have H2 := hs.2
      clear hs
      go_enter Try.func7, Try.ntmps7
      go_wp2_with (first | (go_at_call 12; refine (shown_any _).mono ?_; rintro e w' ⟨rfl, rfl⟩) | (go_at_call 13; refine (dyad_any _ _ _ (by decide) (by first | exact R0.out | exact R1.out | exact R2.out | exact dv1_rng _ _ | exact dv3_rng _ _ | exact Rx.out | exact Ry.out) (by first | exact R0.out | exact R1.out | exact R2.out | exact dv1_rng _ _ | exact dv3_rng _ _ | exact Rx.out | exact Ry.out) _).mono ?_; rintro e w' ⟨rfl, rfl⟩) | (go_at_call 25; refine (ldyad_any _ _ _ (by decide) (by first | exact R0.out | exact R1.out | exact R2.out | exact dv1_rng _ _ | exact dv3_rng _ _ | exact Rx.out | exact Ry.out) (by first | exact R0.out | exact R1.out | exact R2.out | exact dv1_rng _ _ | exact dv3_rng _ _ | exact Rx.out | exact Ry.out) _).mono ?_; rintro e w' ⟨rfl, rfl⟩))
      all_goals
        go_ret
        exact ⟨rfl, Grown.refl _⟩
    · rw [if_neg hn] at hs
      have H1 := hs.1
      have H2 := hs.2
      clear hs
      go_enter Try.func7, Try.ntmps7
      go_wp2_with (first | (go_at_call 12; refine (shown_any _).mono ?_; rintro e w' ⟨rfl, rfl⟩) | (go_at_call 13; refine (dyad_any _ _ _ (by decide) (by first | exact R0.out | exact R1.out | exact R2.out | exact dv1_rng _ _ | exact dv3_rng _ _ | exact Rx.out | exact Ry.out) (by first | exact R0.out | exact R1.out | exact R2.out | exact dv1_rng _ _ | exact dv3_rng _ _ | exact Rx.out | exact Ry.out) _).mono ?_; rintro e w' ⟨rfl, rfl⟩) | (go_at_call 25; refine (ldyad_any _ _ _ (by decide) (by first | exact R0.out | exact R1.out | exact R2.out | exact dv1_rng _ _ | exact dv3_rng _ _ | exact Rx.out | exact Ry.out) (by first | exact R0.out | exact R1.out | exact R2.out | exact dv1_rng _ _ | exact dv3_rng _ _ | exact Rx.out | exact Ry.out) _).mono ?_; rintro e w' ⟨rfl, rfl⟩))
      go_ret
      exact ⟨rfl, Grown.refl _⟩
set_option maxRecDepth 100000 in
theorem lifted (os : Os) (started : os.Started) (H : Type) (enc : TypeId × Value → H) :
    ReturnsInHanded {} Try.checked os 7 .any (Rows.wordDividesSpec.pre6 enc Try.prog Try.f7 Rows.wordDividesRow.domain false) (Rows.wordDividesSpec.post enc Try.prog Try.f7 false true false false) := by
  refine returnsInHanded_of_change (C := Try.checked) lawOwn started (by kernel_rfl) Try.func7
    (ChangeSpec.witness6 (enc := enc) (C := Try.checked) false ⟨#[], #[.int .i64 0, .int .i64 0], []⟩ 8 (by kernel_rfl) (by kernel_rfl) (by kernel_rfl) (by kernel_rfl)) ?_
  intro W base args ds gs before hval0 hW hcnd _
  have hval : ∀ (j : Nat) t v, Try.f7.params[j]? = some t → args[j]? = some v → Value.okWide Try.prog W .any base t v := hval0
  have hW' := hW
  obtain ⟨p, q, hA0, hV, rfl, hfz, hnd⟩ := hW
  have hA : DataW.TrodAll enc Try.prog W 0 (fun _ => true) true Try.f7.params.toList args.toList ds p := hA0
  rw [Try.params7] at hA hval
  obtain ⟨rfl, rfl⟩ := trodVars_none hV
  simp only [List.append_nil] at hW'
  obtain ⟨v0, vs0, d0, ds0, p0, q0, hargs, rfl, hp, h0, r0⟩ := trodAll_cons hA
  obtain ⟨v1, vs1, d1, ds1, p1, q1, rfl, rfl, rfl, h1, r1⟩ := trodAll_cons r0
  obtain ⟨rfl, rfl, rfl⟩ := trodAll_nil r1
  obtain rfl : args = #[v0, v1] := by cases args; simp_all
  have hback := fun (W' : World) (hg : Grown W W') (sp : Nat → Bool) (hs : ∀ q ∈ p, sp q.block = true) => lawArgs hg (sp := sp) (by kernel_rfl) hA (fun q hq => hW'.lt q hq) hs
  obtain ⟨a0, rfl, _, _, w0⟩ := open_int Try.underlying2 (hval 0 2 v0 rfl rfl) h0
  obtain ⟨a1, rfl, _, _, w1⟩ := open_int Try.underlying2 (hval 1 2 v1 rfl rfl) h1
  refine (walk a0 a1 w0 w1 W).mono fun e W' ⟨he, hg⟩ => ?_
  subst he
  exact ⟨_, rfl, post_of_same (pa := p) (pv := []) hW' (fun _ _ _ => (trodAll_cons_mk (shut_bool Try.underlying4 _) trodAll_mk0)) (fun sp hs => hback W' hg sp hs) (fun _ _ => rfl) (List.append_nil _).symm
    (hg.frame _) hg.2.1 (ok_one (by kernel_rfl) rfl (okWide_bool_mk Try.underlying4 _))⟩

theorem over : Rows.wordDividesRow.holds Try.pinned (OpenSpec.ofChange Rows.wordDividesSpec) :=
  OpenClaim.holds_of_wide 7 Try.f7 rfl rfl rfl rfl rfl rfl rfl ⟨rfl, rfl, rfl, rfl, rfl⟩ rfl rfl rfl rfl rfl (by kernel_rfl) Try.func7 (by kernel_rfl)
    (of_decide_eq_true (by kernel_rfl)) (by unfold Func.isWrapper; first | (rw [if_pos (by decide +kernel)]; kernel_rfl) | (rw [if_neg (by decide +kernel)]; exact ⟨rfl, rfl⟩))
    (fun os started H enc _ => lifted os started H enc)

/-- The statement. -/
theorem proved : Rows.WordDividesSaid := over
end Go.Proofs.Ytajlpngbnnbblaa.wordDivides
