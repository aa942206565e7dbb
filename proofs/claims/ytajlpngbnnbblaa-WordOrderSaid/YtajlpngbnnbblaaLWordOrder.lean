/- WordOrder: of two numbers one is below, the same, or above, and what follows for the others: for any two numbers. -/
import Derived.Test.YtajlpngbnnbblaaLift
import Derived.Test.YtajlpngbnnbblaaWordG
import Derived.Lib.SmallJoins
namespace Go.Proofs.Ytajlpngbnnbblaa.wordOrder
open Go.ChangeShapes Go.WideShapes Go.ChangeAt Go.RowKit Go.Joins
set_option linter.unusedVariables false
set_option maxRecDepth 100000 in
set_option maxHeartbeats 1000000 in
theorem walk (a0 : Int) (a1 : Int) (w0 : (Lit.int .i64 a0).wf = true) (w1 : (Lit.int .i64 a1).wf = true) (w : World) :
    Calls Try.prog 8 #[.int .i64 a0, .int .i64 a1] w fun e w' => e = .returned (.bool true) ∧ Grown w w' := by
  have R0 := Lib.hid (i64_rng w0)
  have R1 := Lib.hid (i64_rng w1)
  clear w0 w1
  have R2 := R0
  have Rx := R0
  have Ry := R0
  rcases Int.lt_trichotomy a0 a1 with h | h | h
  · have hn : (a0 == a1) = false := by simp; omega
    have hl : a0 ≤ a1 := by omega
    have V8 : dv 8 a0 a1 = 0 := by simp [dv, b2i] <;> omega
    have V9 : dv 9 a0 a1 = 1 := by simp [dv, b2i] <;> omega
    have V10 : dv 10 a0 a1 = 1 := by simp [dv, b2i] <;> omega
    have V11 : dv 11 a0 a1 = 1 := by simp [dv, b2i] <;> omega
    have V12 : dv 12 a0 a1 = 0 := by simp [dv, b2i] <;> omega
    have V13 : dv 13 a0 a1 = 0 := by simp [dv, b2i] <;> omega
    have V13b : dv 13 a1 a0 = 1 := by simp [dv, b2i] <;> omega
    have V6 : dv 6 a0 a1 = a0 := by simp [dv] <;> omega
    have V7 : dv 7 a0 a1 = a1 := by simp [dv] <;> omega
    go_enter Try.func8, Try.ntmps8
    go_wp2_with (first | (go_at_call 12; refine (shown_any _).mono ?_; rintro e w' ⟨rfl, rfl⟩) | (go_at_call 25; refine (ldyad_any _ _ _ (by decide) (by first | exact R0.out | exact R1.out | exact R2.out | exact dv1_rng _ _ | exact dv3_rng _ _ | exact Rx.out | exact Ry.out) (by first | exact R0.out | exact R1.out | exact R2.out | exact dv1_rng _ _ | exact dv3_rng _ _ | exact Rx.out | exact Ry.out) _).mono ?_; rintro e w' ⟨rfl, rfl⟩))
    go_ret
    exact ⟨rfl, Grown.refl _⟩
  · subst h
    have V8 : dv 8 a0 a0 = 1 := by simp [dv, b2i] <;> omega
    have V9 : dv 9 a0 a0 = 0 := by simp [dv, b2i] <;> omega
    have V10 : dv 10 a0 a0 = 0 := by simp [dv, b2i] <;> omega
    have V11 : dv 11 a0 a0 = 1 := by simp [dv, b2i] <;> omega
    have V12 : dv 12 a0 a0 = 1 := by simp [dv, b2i] <;> omega
    have V13 : dv 13 a0 a0 = 0 := by simp [dv, b2i] <;> omega
    have V6 : dv 6 a0 a0 = a0 := by simp [dv] <;> omega
    have V7 : dv 7 a0 a0 = a0 := by simp [dv] <;> omega
    go_enter Try.func8, Try.ntmps8
    go_wp2_with (first | (go_at_call 12; refine (shown_any _).mono ?_; rintro e w' ⟨rfl, rfl⟩) | (go_at_call 25; refine (ldyad_any _ _ _ (by decide) (by first | exact R0.out | exact R1.out | exact R2.out | exact dv1_rng _ _ | exact dv3_rng _ _ | exact Rx.out | exact Ry.out) (by first | exact R0.out | exact R1.out | exact R2.out | exact dv1_rng _ _ | exact dv3_rng _ _ | exact Rx.out | exact Ry.out) _).mono ?_; rintro e w' ⟨rfl, rfl⟩))
    go_ret
    exact ⟨rfl, Grown.refl _⟩
  · have hn : (a0 == a1) = false := by simp; omega
    have hn2 : (a1 == a0) = false := by simp; omega
    have hl : a1 ≤ a0 := by omega
    have hd : decide (a0 < a1) = false := by simp; omega
    have V8 : dv 8 a0 a1 = 0 := by simp [dv, b2i] <;> omega
    have V9 : dv 9 a0 a1 = 1 := by simp [dv, b2i] <;> omega
    have V10 : dv 10 a0 a1 = 0 := by simp [dv, b2i] <;> omega
    have V11 : dv 11 a0 a1 = 0 := by simp [dv, b2i] <;> omega
    have V12 : dv 12 a0 a1 = 1 := by simp [dv, b2i] <;> omega
    have V13 : dv 13 a0 a1 = 1 := by simp [dv, b2i] <;> omega
    have V13b : dv 13 a1 a0 = 0 := by simp [dv, b2i] <;> omega
    have V6 : dv 6 a0 a1 = a1 := by simp [dv] <;> omega
    have V7 : dv 7 a0 a1 = a0 := by simp [dv] <;> omega
    have V1 : (dv 1 a1 a0 == dv 1 a0 a1) = true := ring1 _ _
    go_enter Try.func8, Try.ntmps8
    go_wp2_with (first | (go_at_call 12; refine (shown_any _).mono ?_; rintro e w' ⟨rfl, rfl⟩) | (go_at_call 25; refine (ldyad_any _ _ _ (by decide) (by first | exact R0.out | exact R1.out | exact R2.out | exact dv1_rng _ _ | exact dv3_rng _ _ | exact Rx.out | exact Ry.out) (by first | exact R0.out | exact R1.out | exact R2.out | exact dv1_rng _ _ | exact dv3_rng _ _ | exact Rx.out | exact Ry.out) _).mono ?_; rintro e w' ⟨rfl, rfl⟩))
    go_ret
    exact ⟨rfl, Grown.refl _⟩
set_option maxRecDepth 100000 in
theorem lifted (os : Os) (started : os.Started) (H : Type) (enc : TypeId × Value → H) :
    ReturnsInHanded {} Try.checked os 8 .any (Rows.wordOrderSpec.pre6 enc Try.prog Try.f8 Rows.wordOrderRow.domain false) (Rows.wordOrderSpec.post enc Try.prog Try.f8 false true false false) := by
  refine returnsInHanded_of_change (C := Try.checked) lawOwn started (by kernel_rfl) Try.func8
    (ChangeSpec.witness6 (enc := enc) (C := Try.checked) false ⟨#[], #[.int .i64 0, .int .i64 0], []⟩ 8 (by kernel_rfl) (by kernel_rfl) (by kernel_rfl) (by kernel_rfl)) ?_
  intro W base args ds gs before hval0 hW hcnd _
  have hval : ∀ (j : Nat) t v, Try.f8.params[j]? = some t → args[j]? = some v → Value.okWide Try.prog W .any base t v := hval0
  have hW' := hW
  obtain ⟨p, q, hA0, hV, rfl, hfz, hnd⟩ := hW
  have hA : DataW.TrodAll enc Try.prog W 0 (fun _ => true) true Try.f8.params.toList args.toList ds p := hA0
  rw [Try.params8] at hA hval
  obtain ⟨rfl, rfl⟩ := trodVars_none hV
  simp only [List.append_nil] at hW'
  obtain ⟨v0, vs0, d0, ds0, p0, q0, hargs, rfl, hp, h0, r0⟩ := trodAll_cons hA
  obtain ⟨v1, vs1, d1, ds1, p1, q1, rfl, rfl, rfl, h1, r1⟩ := trodAll_cons r0
  obtain ⟨rfl, rfl, rfl⟩ := trodAll_nil r1
  obtain rfl : args = #[v0, v1] := by cases args; simp_all
  have hback := fun (W' : World) (hg : Grown W W') (sp : Nat → Bool) (hs : ∀ q ∈ p, sp q.block = true) => lawArgs hg (sp := sp) (by kernel_rfl) hA (fun q hq => hW'.lt q hq) hs
  obtain ⟨a0, rfl, _, _, w0⟩ := open_int Try.underlying2 (hval 0 2 v0 rfl rfl) h0
  obtain ⟨a1, rfl, _, _, w1⟩ := open_int Try.underlying2 (hval 1 2 v1 rfl rfl) h1
  refine (walk a0 a1 w0 w1 W).mono fun e W' ⟨he, hg⟩ => ?_
  subst he
  exact ⟨_, rfl, post_of_same (pa := p) (pv := []) hW' (fun _ _ _ => (trodAll_cons_mk (shut_bool Try.underlying4 _) trodAll_mk0)) (fun sp hs => hback W' hg sp hs) (fun _ _ => rfl) (List.append_nil _).symm
    (hg.frame _) hg.2.1 (ok_one (by kernel_rfl) rfl (okWide_bool_mk Try.underlying4 _))⟩

theorem over : Rows.wordOrderRow.holds Try.pinned (OpenSpec.ofChange Rows.wordOrderSpec) :=
  OpenClaim.holds_of_wide 8 Try.f8 rfl rfl rfl rfl rfl rfl rfl ⟨rfl, rfl, rfl, rfl, rfl⟩ rfl rfl rfl rfl rfl (by kernel_rfl) Try.func8 (by kernel_rfl)
    (of_decide_eq_true (by kernel_rfl)) (by unfold Func.isWrapper; first | (rw [if_pos (by decide +kernel)]; kernel_rfl) | (rw [if_neg (by decide +kernel)]; exact ⟨rfl, rfl⟩))
    (fun os started H enc _ => lifted os started H enc)

/-- The statement. -/
theorem proved : Rows.WordOrderSaid := over
end Go.Proofs.Ytajlpngbnnbblaa.wordOrder
