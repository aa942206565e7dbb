/- The law PolyMakes. -/
import Derived.Test.YtogflbpphacokaaPolyLB
namespace Go.Proofs.Ytogflbpphacokaa.polyMakes
open Go.ChangeShapes Go.WideShapes Go.ChangeAt Go.RowKit Go.Joins
set_option linter.unusedVariables false
set_option maxRecDepth 100000 in
set_option maxHeartbeats 1000000 in
theorem walk (a0 : Int) (a1 : Int) (w : World) (w0 : (Lit.int .i64 a0).wf = true) (w1 : (Lit.int .i64 a1).wf = true) :
    Calls Try.prog 4 #[.int .i64 a0, .int .i64 a1] w fun e w' => e = .returned (.bool true) ∧ Below w.heap.size w w' := by
  go_enter Try.func4, Try.ntmps4
  go_wp2_with fail
  refine (shown_any _).mono ?_
  rintro e W1 ⟨rfl, b1⟩
  have B := Lib.hid b1
  clear b1
  go_wp2_with fail
  refine (const_any a0 _).mono ?_
  rintro e W2 ⟨A2', c2, rfl, o2, b2⟩
  have R2 := Lib.hid (o2.ok (const_ok a0))
  clear o2
  replace B := Lib.hid (B.out.trans (b2.mono B.out.size))
  clear b2
  go_wp2_with fail
  refine (refconst_any a0 _).mono ?_
  rintro e W3 ⟨A3', c3, rfl, o3, b3⟩
  have R3 := Lib.hid (o3.ok (const_ok a0))
  clear o3
  replace R2 := Lib.hid (R2.out.below b3)
  replace B := Lib.hid (B.out.trans (b3.mono B.out.size))
  clear b3
  go_wp2_with fail
  refine (var_any a1 _).mono ?_
  rintro e W4 ⟨A4', c4, rfl, o4, b4⟩
  have R4 := Lib.hid (o4.ok (var_ok a1))
  clear o4
  replace R2 := Lib.hid (R2.out.below b4)
  replace R3 := Lib.hid (R3.out.below b4)
  replace B := Lib.hid (B.out.trans (b4.mono B.out.size))
  clear b4
  go_wp2_with fail
  refine (refvar_any a1 _).mono ?_
  rintro e W5 ⟨A5', c5, rfl, o5, b5⟩
  have R5 := Lib.hid (o5.ok (var_ok a1))
  clear o5
  replace R2 := Lib.hid (R2.out.below b5)
  replace R3 := Lib.hid (R3.out.below b5)
  replace R4 := Lib.hid (R4.out.below b5)
  replace B := Lib.hid (B.out.trans (b5.mono B.out.size))
  clear b5
  go_wp2_with fail
  refine (same_self _ _ _ _ _ _ R2.out R3.out (const_ok a0).max).mono ?_
  rintro e W6 ⟨rfl, g6⟩
  have b6 := g6.below
  clear g6
  replace R2 := Lib.hid (R2.out.below b6)
  replace R3 := Lib.hid (R3.out.below b6)
  replace R4 := Lib.hid (R4.out.below b6)
  replace R5 := Lib.hid (R5.out.below b6)
  replace B := Lib.hid (B.out.trans (b6.mono B.out.size))
  clear b6
  go_wp2_with fail
  refine (same_self _ _ _ _ _ _ R4.out R5.out (var_ok a1).max).mono ?_
  rintro e W7 ⟨rfl, g7⟩
  have b7 := g7.below
  clear g7
  replace R2 := Lib.hid (R2.out.below b7)
  replace R3 := Lib.hid (R3.out.below b7)
  replace R4 := Lib.hid (R4.out.below b7)
  replace R5 := Lib.hid (R5.out.below b7)
  replace B := Lib.hid (B.out.trans (b7.mono B.out.size))
  clear b7
  go_wp2
  go_ret
  exact ⟨rfl, B.out⟩

set_option maxRecDepth 100000 in
theorem lifted (os : Os) (started : os.Started) (H : Type) (enc : TypeId × Value → H) :
    ReturnsInHanded {} Try.checked os 4 .any (Rows.polyMakesSpec.pre6 enc Try.prog Try.f4 Rows.polyMakesRow.domain false) (Rows.polyMakesSpec.post enc Try.prog Try.f4 false true false false) := by
  refine returnsInHanded_of_change (C := Try.checked) lawOwn started (by kernel_rfl) Try.func4
    (ChangeSpec.witness6 (enc := enc) (C := Try.checked) false ⟨#[], #[.int .i64 0, .int .i64 0], []⟩ 8 (by kernel_rfl) (by kernel_rfl) (by kernel_rfl) (by kernel_rfl)) ?_
  intro W base args ds gs before hval0 hW hcnd _
  have hval : ∀ (j : Nat) t v, Try.f4.params[j]? = some t → args[j]? = some v → Value.okWide Try.prog W .any base t v := hval0
  have hW' := hW
  obtain ⟨p, q, hA0, hV, rfl, hfz, hnd⟩ := hW
  have hA : DataW.TrodAll enc Try.prog W 0 (fun _ => true) true Try.f4.params.toList args.toList ds p := hA0
  rw [Try.params4] at hA hval
  obtain ⟨rfl, rfl⟩ := trodVars_none hV
  simp only [List.append_nil] at hW'
  obtain ⟨v0, vs0, d0, ds0, p0, q0, hargs, rfl, hp, h0, z0⟩ := trodAll_cons hA
  obtain ⟨v1, vs1, d1, ds1, p1, q1, rfl, rfl, rfl, h1, z1⟩ := trodAll_cons z0
  obtain ⟨rfl, rfl, rfl⟩ := trodAll_nil z1
  obtain rfl : args = #[v0, v1] := by cases args; simp_all
  have hback := fun (W' : World) (hg : Below W.heap.size W W') (sp : Nat → Bool) (hs : ∀ q ∈ p, sp q.block = true) => lawArgsB hg (sp := sp) (by kernel_rfl) hA (fun q hq => hW'.lt q hq) hs
  obtain ⟨a0, rfl, _, _, w0⟩ := open_int Try.underlying2 (hval 0 2 v0 rfl rfl) h0
  obtain ⟨a1, rfl, _, _, w1⟩ := open_int Try.underlying3 (hval 1 3 v1 rfl rfl) h1
  refine (walk a0 a1 W w0 w1).mono fun e W' ⟨he, hg⟩ => ?_
  subst he
  exact ⟨_, rfl, lawPost (pa := p) (pv := []) hW' hg (List.append_nil _).symm (fun _ _ _ => (trodAll_cons_mk (shut_bool Try.underlying4 _) trodAll_mk0)) (fun sp hs => hback W' hg sp hs) (fun _ _ => rfl)
    (ok_one (by kernel_rfl) rfl (okWide_bool_mk Try.underlying4 _))⟩

theorem over : Rows.polyMakesRow.holds Try.pinned (OpenSpec.ofChange Rows.polyMakesSpec) :=
  OpenClaim.holds_of_wide 4 Try.f4 rfl rfl rfl rfl rfl rfl rfl ⟨rfl, rfl, rfl, rfl, rfl⟩ rfl rfl rfl rfl rfl (by kernel_rfl) Try.func4 (by kernel_rfl)
    (of_decide_eq_true (by kernel_rfl)) (by unfold Func.isWrapper; first | (rw [if_pos (by decide +kernel)]; kernel_rfl) | (rw [if_neg (by decide +kernel)]; exact ⟨rfl, rfl⟩))
    (fun os started H enc _ => lifted os started H enc)

/-- The statement. -/
theorem proved : Rows.PolyMakesSaid := over
end Go.Proofs.Ytogflbpphacokaa.polyMakes
