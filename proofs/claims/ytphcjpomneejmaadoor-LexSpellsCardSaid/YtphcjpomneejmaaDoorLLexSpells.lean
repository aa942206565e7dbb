/- Package lex spells every token as the document says, or says that it has no text. The row lists five package-level variables of the library with what the program text lays in them; the card ties them to it. No other condition. -/
import Derived.Test.YtphcjpomneejmaaDoorLexLift
namespace Go.Proofs.YtphcjpomneejmaaDoor.lexSpells
open Go.ChangeShapes Go.WideShapes Go.ChangeAt Go.RowKit
set_option linter.unusedVariables false

set_option maxRecDepth 100000 in
set_option maxHeartbeats 1000000 in
theorem walk (t : Tk) (hk : TkOk t) (w : World) (hL : Laid w) : Calls Tryd.prog 4 #[.agg #[.int .i64 t.k, .int .i64 t.a, .string (bs t.w), .int .i64 t.n]] w fun e w' => e = .returned (.bool true) ∧ Below w.heap.size w w' := by
  obtain ⟨V0, hV0⟩ : ∃ V0, V0 = w.alloc (.cells #[.int .i64 t.k, .int .i64 t.a, .string (bs t.w), .int .i64 t.n] 32) := ⟨_, rfl⟩
  have HX := Lib.hid (show Box V0 w.heap.size t by rw [hV0]; exact Box.new w t)
  have B := Lib.hid (show Below w.heap.size w V0 by rw [hV0]; exact up _)
  go_enter Tryd.func4, Tryd.ntmps4
  go_wp2_with fail
  rw [← hV0]
  clear hV0
  refine (shown_any _ (hL.below B.out)).mono ?_
  rintro e W1 ⟨rfl, b1⟩
  replace HX := Lib.hid (HX.out.below b1)
  replace B := Lib.hid (up2 B.out b1)
  clear b1
  obtain ⟨c0, c1, c2, c3⟩ := HX.out.1
  go_wp2_with fail
  refine (spell_any t _ (hL.below B.out) hk).mono ?_
  rintro e W2 ⟨rfl, b2⟩
  replace HX := Lib.hid (HX.out.below b2)
  replace B := Lib.hid (up2 B.out b2)
  clear b2 c0 c1 c2 c3
  obtain ⟨c0, c1, c2, c3⟩ := HX.out.1
  go_wp2_with fail
  refine (rspell_any t _ hk).mono ?_
  rintro e W3 ⟨rfl, b3⟩
  replace B := Lib.hid (up2 B.out b3)
  clear b3
  go_wp2
  go_ret
  exact ⟨rfl, B.out⟩

theorem reads (os : Os) {H : Type} (enc : TypeId × Value → H) : ∃ places, DataW.whole enc Tryd.prog ((startWorld os).forCall (fun _ _ => 0) ⟨#[], #[.agg #[.int .i64 0, .int .i64 0, .string ⟨#[]⟩, .int .i64 0]], []⟩).memory Tryd.f4.params.toList Rows.lexSpellsSpec.vars false (#[.agg #[.int .i64 0, .int .i64 0, .string ⟨#[]⟩, .int .i64 0]] : Array Value).toList 8 = some ([.agg [.lit (.int .i64 0), .lit (.int .i64 0), .lit (.string []), .lit (.int .i64 0)]], [], places) :=
  ⟨[], by kernel_rfl⟩
set_option maxRecDepth 100000 in
set_option maxHeartbeats 1000000 in
theorem lifted (os : Os) (started : os.Started) (H : Type) (enc : TypeId × Value → H) (F : Stop.Interp) :
    ReturnsInHanded {} Tryd.checked os 4 .any ((OpenSpec.ofChange Rows.lexSpellsSpec).preRow enc Tryd.prog Tryd.f4 Rows.lexSpellsRow.domain false Rows.lexSpellsRow.laid) (((OpenSpec.ofChange Rows.lexSpellsSpec).at F).post enc Tryd.prog Tryd.f4 false true false false) := by
  obtain ⟨places, hx⟩ := reads os enc
  refine returnsInHanded_of_row (C := Tryd.checked) (s := OpenSpec.ofChange Rows.lexSpellsSpec) lawOwn started (by kernel_rfl) Tryd.func4
    (witness_row_atRef (enc := enc) (C := Tryd.checked) false (startWorld os) #[.agg #[.int .i64 0, .int .i64 0, .string ⟨#[]⟩, .int .i64 0]] rfl (by kernel_rfl) (by kernel_rfl) (by kernel_rfl)
      (OpenSpec.preRow_of_cond 8 hx (by kernel_rfl) (fun k hk => by cases hk) (by kernel_rfl) (start_met os _))) ?_
  intro W base args ds gs before hval0 hW _ _ hwt hlaid _ _
  have hval : ∀ (j : Nat) t v, Tryd.f4.params[j]? = some t → args[j]? = some v → Value.okWide Tryd.prog W .any base t v := hval0
  have hW' := hW
  obtain ⟨p, q, hA0, hV, rfl, hfz, hnd⟩ := hW
  have hA : DataW.TrodAll enc Tryd.prog W 0 (fun _ => true) true Tryd.f4.params.toList args.toList ds p := hA0
  rw [Tryd.params4] at hA hval
  obtain ⟨rfl, rfl⟩ := trodVars_none hV
  simp only [List.append_nil] at hW'
  obtain ⟨v0, vs0, d0, ds0, p0, q0, hargs, rfl, hp, h0, z0⟩ := trodAll_cons hA
  obtain ⟨rfl, rfl, rfl⟩ := trodAll_nil z0
  obtain rfl : args = #[v0] := by cases args; simp_all
  have hback := fun (W' : World) (hg : Below W.heap.size W W') (sp : Nat → Bool) (hs : ∀ q ∈ p, sp q.block = true) => lawArgsB hg (sp := sp) (by kernel_rfl) hA (fun q hq => hW'.lt q hq) hs
  have hw0 := wt_of (P := Tryd.prog) hwt
  obtain ⟨a0, rfl, hk0⟩ := open_token (hval 0 32 v0 rfl rfl) h0 hw0
  have hw1 := wt_skip hw0
  refine (walk a0 hk0 W (laid_of hlaid)).mono fun e W' ⟨he, hg⟩ => ?_
  subst he
  exact ⟨_, rfl, lawPost (pa := p) (pv := []) hW' hg (List.append_nil _).symm (fun _ _ _ => (trodAll_cons_mk (shut_bool Tryd.underlying4 _) trodAll_mk0)) (fun sp hs => hback W' hg sp hs) (fun _ _ => rfl)
    (ok_one (by kernel_rfl) rfl (okWide_bool_mk Tryd.underlying4 _))⟩
theorem said : Rows.LexSpellsSaid :=
  OpenClaim.holds_of_cond 4 Tryd.f4 rfl rfl rfl rfl rfl rfl rfl ⟨rfl, rfl, rfl, rfl, rfl⟩ rfl rfl rfl rfl rfl (by kernel_rfl) Tryd.func4 (by kernel_rfl)
    (of_decide_eq_true (by kernel_rfl)) (by unfold Func.isWrapper; first | (rw [if_pos (by decide +kernel)]; kernel_rfl) | (rw [if_neg (by decide +kernel)]; exact ⟨rfl, rfl⟩))
    (fun os started H enc _ F => by rw [OpenClaim.pre_eq_preRow]; exact lifted os started H enc F)
theorem plain (f : FuncId) (fn : Func) (hf : Tryd.pinned.checked.prog.funcNamed "windrow/windrowlaw03.LexSpells" = some f) (hfn : Tryd.pinned.checked.prog.funcs[f]? = some fn) :
    true = Tryd.pinned.checked.prog.looks [] ∧ ∀ (j : Nat) t, fn.params[j]? = some t → Tryd.pinned.checked.prog.wantsStandIn t = false := by
  obtain rfl : f = 4 := Option.some.inj ((show Tryd.prog.funcNamed "windrow/windrowlaw03.LexSpells" = some 4 by kernel_rfl).symm.trans hf) |>.symm
  obtain rfl : fn = Tryd.f4 := (Option.some.inj (Tryd.func4.symm.trans hfn)).symm
  refine ⟨by kernel_rfl, fun j t ht => ?_⟩
  rw [Tryd.params4] at ht
  have hm : t ∈ [32] := by simpa using Array.mem_of_getElem? ht
  have hall : ([32].all fun u => !Tryd.prog.wantsStandIn u) = true := by kernel_rfl
  exact (show Tryd.prog.wantsStandIn t = false by simpa using List.all_eq_true.1 hall t hm)
/-- The statement. -/
theorem proved : Rows.LexSpellsCardSaid :=
  Claim7.holds_tied_plain_at .later [] _ _ _ _ said (fun _ h => by cases h) (by kernel_rfl) (fun _ h => by cases h) lexSpells_row_tie rfl ⟨rfl, rfl⟩ (by kernel_rfl) rfl plain (by kernel_rfl)
end Go.Proofs.YtphcjpomneejmaaDoor.lexSpells
