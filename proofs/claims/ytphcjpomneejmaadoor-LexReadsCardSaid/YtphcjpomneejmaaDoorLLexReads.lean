/- Package lex cuts every text into the tokens that the document names, or refuses it where the document says. The row lists five package-level variables of the library with what the program text lays in them; the card ties them to it. No other condition. -/
import Derived.Test.YtphcjpomneejmaaDoorLexLift
namespace Go.Proofs.YtphcjpomneejmaaDoor.lexReads
open Go.ChangeShapes Go.WideShapes Go.ChangeAt Go.RowKit
set_option linter.unusedVariables false

set_option maxRecDepth 100000 in
set_option maxHeartbeats 1000000 in
theorem walk (s : ByteArray) (hs : s.size ≤ 140737488355320) (w : World) (hL : Laid w) : Calls Tryd.prog 3 #[.string s] w fun e w' => e = .returned (.bool true) ∧ Below w.heap.size w w' := by
  have hp := Lib.hid (sh_zero (lexR s.data.toList).toks)
  have hbd := Lib.hid (@lexR_bd s.data.toList)
  have hlx := fun w hL => lex_any s w hL (by omega)
  have hrx := fun w => reflex_any s w (by omega)
  obtain ⟨x, hx⟩ : ∃ x, x = lexR s.data.toList := ⟨_, rfl⟩
  rw [← hx] at hp hbd hlx hrx
  have HLX := Lib.hid hlx
  have HRX := Lib.hid hrx
  clear hx hlx hrx
  go_enter Tryd.func3, Tryd.ntmps3
  go_wp2_with fail
  refine (shown_any _ hL).mono ?_
  rintro e W1 ⟨rfl, b1⟩
  have B := Lib.hid b1
  clear b1
  go_wp2_with fail
  refine (HLX.out _ (hL.below B.out)).mono ?_
  rintro e W2 ⟨A2, c2, rfl, o2, b2⟩
  have hu := up2 b2 (up (.cells #[.int .i64 x.fa, .int .i64 x.fe] 26))
  have R2 := Lib.hid (o2.rd.below (up (.cells #[.int .i64 x.fa, .int .i64 x.fe] 26)))
  have F2 := Lib.hid (FaultAt.new W2 x.fa x.fe)
  replace B := Lib.hid (up2 B.out hu)
  clear b2 o2 hu
  go_wp2_with fail
  obtain ⟨V2, hV2⟩ : ∃ V2, V2 = W2.alloc (.cells #[.int .i64 x.fa, .int .i64 x.fe] 26) := ⟨_, rfl⟩
  rw [← hV2] at B R2 F2 ⊢
  clear hV2
  refine (HRX.out _).mono ?_
  rintro e W3 ⟨A3, c3, rfl, o3, b3⟩
  have hu := up2 b3 (up (.cells #[.int .i64 x.fa, .int .i64 x.fe] 26))
  have R3 := Lib.hid (o3.rd.below (up (.cells #[.int .i64 x.fa, .int .i64 x.fe] 26)))
  have F3 := Lib.hid (FaultAt.new W3 x.fa x.fe)
  replace R2 := Lib.hid (R2.out.below hu)
  replace F2 := Lib.hid (F2.out.below hu)
  replace B := Lib.hid (up2 B.out hu)
  clear b3 o3 hu
  obtain ⟨V3, hV3⟩ : ∃ V3, V3 = W3.alloc (.cells #[.int .i64 x.fa, .int .i64 x.fe] 26) := ⟨_, rfl⟩
  have hV3' := Lib.hid hV3
  rw [← hV3] at B R2 F2 R3 F3
  clear hV3
  obtain ⟨f0, f1, _⟩ := F2.out
  obtain ⟨g0, g1, _⟩ := F3.out
  rw [hV3'.out] at f0 f1 g0 g1
  go_wp2_with fail
  rw [← hV3'.out]
  refine (same_any A2 A3 x.toks x.toks c2 c3 0 0 _ R2.out R3.out (hbd.out.2) hp.out.symm ⟨by omega, by omega⟩ (hbd.out.1)).mono ?_
  rintro e W4 ⟨rfl, b4⟩
  replace B := Lib.hid (up2 B.out b4)
  clear b4
  go_wp2
  go_ret
  exact ⟨rfl, B.out⟩

theorem reads (os : Os) {H : Type} (enc : TypeId × Value → H) : ∃ places, DataW.whole enc Tryd.prog ((startWorld os).forCall (fun _ _ => 0) ⟨#[], #[.string ⟨#[]⟩], []⟩).memory Tryd.f3.params.toList Rows.lexReadsSpec.vars false (#[.string ⟨#[]⟩] : Array Value).toList 8 = some ([.lit (.string [])], [], places) :=
  ⟨[], by kernel_rfl⟩
set_option maxRecDepth 100000 in
set_option maxHeartbeats 1000000 in
theorem lifted (os : Os) (started : os.Started) (H : Type) (enc : TypeId × Value → H) (F : Stop.Interp) :
    ReturnsInHanded {} Tryd.checked os 3 .any ((OpenSpec.ofChange Rows.lexReadsSpec).preRow enc Tryd.prog Tryd.f3 Rows.lexReadsRow.domain false Rows.lexReadsRow.laid) (((OpenSpec.ofChange Rows.lexReadsSpec).at F).post enc Tryd.prog Tryd.f3 false true false false) := by
  obtain ⟨places, hx⟩ := reads os enc
  refine returnsInHanded_of_row (C := Tryd.checked) (s := OpenSpec.ofChange Rows.lexReadsSpec) lawOwn started (by kernel_rfl) Tryd.func3
    (witness_row_atRef (enc := enc) (C := Tryd.checked) false (startWorld os) #[.string ⟨#[]⟩] rfl (by kernel_rfl) (by kernel_rfl) (by kernel_rfl)
      (OpenSpec.preRow_of_cond 8 hx (by kernel_rfl) (fun k hk => by cases hk) (by kernel_rfl) (start_met os _))) ?_
  intro W base args ds gs before hval0 hW _ _ hwt hlaid _ _
  have hval : ∀ (j : Nat) t v, Tryd.f3.params[j]? = some t → args[j]? = some v → Value.okWide Tryd.prog W .any base t v := hval0
  have hW' := hW
  obtain ⟨p, q, hA0, hV, rfl, hfz, hnd⟩ := hW
  have hA : DataW.TrodAll enc Tryd.prog W 0 (fun _ => true) true Tryd.f3.params.toList args.toList ds p := hA0
  rw [Tryd.params3] at hA hval
  obtain ⟨rfl, rfl⟩ := trodVars_none hV
  simp only [List.append_nil] at hW'
  obtain ⟨v0, vs0, d0, ds0, p0, q0, hargs, rfl, hp, h0, z0⟩ := trodAll_cons hA
  obtain ⟨rfl, rfl, rfl⟩ := trodAll_nil z0
  obtain rfl : args = #[v0] := by cases args; simp_all
  have hback := fun (W' : World) (hg : Below W.heap.size W W') (sp : Nat → Bool) (hs : ∀ q ∈ p, sp q.block = true) => lawArgsB hg (sp := sp) (by kernel_rfl) hA (fun q hq => hW'.lt q hq) hs
  have hw0 := wt_of (P := Tryd.prog) hwt
  obtain ⟨a0, rfl, rfl, _, _⟩ := Go.ChangeMaps.open_string Tryd.underlying9 (hval 0 9 v0 rfl rfl) h0
  obtain ⟨hs0, hw1⟩ := wt_str hw0
  refine (walk a0 hs0 W (laid_of hlaid)).mono fun e W' ⟨he, hg⟩ => ?_
  subst he
  exact ⟨_, rfl, lawPost (pa := p) (pv := []) hW' hg (List.append_nil _).symm (fun _ _ _ => (trodAll_cons_mk (shut_bool Tryd.underlying4 _) trodAll_mk0)) (fun sp hs => hback W' hg sp hs) (fun _ _ => rfl)
    (ok_one (by kernel_rfl) rfl (okWide_bool_mk Tryd.underlying4 _))⟩
theorem said : Rows.LexReadsSaid :=
  OpenClaim.holds_of_cond 3 Tryd.f3 rfl rfl rfl rfl rfl rfl rfl ⟨rfl, rfl, rfl, rfl, rfl⟩ rfl rfl rfl rfl rfl (by kernel_rfl) Tryd.func3 (by kernel_rfl)
    (of_decide_eq_true (by kernel_rfl)) (by unfold Func.isWrapper; first | (rw [if_pos (by decide +kernel)]; kernel_rfl) | (rw [if_neg (by decide +kernel)]; exact ⟨rfl, rfl⟩))
    (fun os started H enc _ F => by rw [OpenClaim.pre_eq_preRow]; exact lifted os started H enc F)
theorem plain (f : FuncId) (fn : Func) (hf : Tryd.pinned.checked.prog.funcNamed "windrow/windrowlaw03.LexReads" = some f) (hfn : Tryd.pinned.checked.prog.funcs[f]? = some fn) :
    true = Tryd.pinned.checked.prog.looks [] ∧ ∀ (j : Nat) t, fn.params[j]? = some t → Tryd.pinned.checked.prog.wantsStandIn t = false := by
  obtain rfl : f = 3 := Option.some.inj ((show Tryd.prog.funcNamed "windrow/windrowlaw03.LexReads" = some 3 by kernel_rfl).symm.trans hf) |>.symm
  obtain rfl : fn = Tryd.f3 := (Option.some.inj (Tryd.func3.symm.trans hfn)).symm
  refine ⟨by kernel_rfl, fun j t ht => ?_⟩
  rw [Tryd.params3] at ht
  have hm : t ∈ [9] := by simpa using Array.mem_of_getElem? ht
  have hall : ([9].all fun u => !Tryd.prog.wantsStandIn u) = true := by kernel_rfl
  exact (show Tryd.prog.wantsStandIn t = false by simpa using List.all_eq_true.1 hall t hm)
/-- The statement. -/
theorem proved : Rows.LexReadsCardSaid :=
  Claim7.holds_tied_plain_at .later [] _ _ _ _ said (fun _ h => by cases h) (by kernel_rfl) (fun _ h => by cases h) lexReads_row_tie rfl ⟨rfl, rfl⟩ (by kernel_rfl) rfl plain (by kernel_rfl)
end Go.Proofs.YtphcjpomneejmaaDoor.lexReads
