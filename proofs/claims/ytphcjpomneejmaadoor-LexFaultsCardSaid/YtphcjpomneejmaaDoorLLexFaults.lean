/- For every text: it is read up to the place of its fault, which lies in it, and beside a fault there is no token. The row lists five package-level variables of the library with what the program text lays in them; the card ties them to it. No other condition. -/
import Derived.Test.YtphcjpomneejmaaDoorLexLift
namespace Go.Proofs.YtphcjpomneejmaaDoor.lexFaults
open Go.ChangeShapes Go.WideShapes Go.ChangeAt Go.RowKit
set_option linter.unusedVariables false

set_option maxRecDepth 100000 in
set_option maxHeartbeats 1000000 in
theorem walk_ok (s : ByteArray) (hs : s.size ≤ 140737488355320) (w : World) (hL : Laid w) (ts : List Tk) (h : lexR s.data.toList = .ok ts) : Calls Tryd.prog 7 #[.string s] w fun e w' => e = .returned (.bool true) ∧ Below w.heap.size w w' := by
  have hx := Lib.hid h
  have h1 := (lexR_ok h).1
  rw [len_s] at h1
  clear h
  go_enter Tryd.func7, Tryd.ntmps7
  go_wp2_with fail
  refine (shown_any _ hL).mono ?_
  rintro e W1 ⟨rfl, b1⟩
  have B := Lib.hid b1
  clear b1
  go_wp2_with fail
  refine (lex_ok s _ ts _ hx.out rfl (hL.below B.out) (by omega)).mono ?_
  rintro e W2 ⟨A2, c2, rfl, r2, b2⟩
  obtain ⟨V2, hV2⟩ : ∃ V2, V2 = W2.alloc (.cells #[.int .i64 0, .int .i64 0] 26) := ⟨_, rfl⟩
  have HV := Lib.hid hV2
  have F2 := Lib.hid (show FaultAt V2 W2.heap.size 0 0 by rw [hV2]; exact FaultAt.new W2 _ _)
  have hu := show Below W1.heap.size W1 V2 by rw [hV2]; exact up2 b2 (up _)
  replace B := Lib.hid (up2 B.out hu)
  obtain ⟨f0, f1, _⟩ := F2.out
  clear b2 hu
  rw [hV2] at f0 f1
  clear hV2
  go_wp2
  go_ret
  exact ⟨ret_bool (decide_eq_true (by omega)), by rw [← HV.out]; exact B.out⟩

set_option maxRecDepth 100000 in
set_option maxHeartbeats 1000000 in
theorem walk_long (s : ByteArray) (hs : s.size ≤ 140737488355320) (w : World) (hL : Laid w) (h : 65536 < s.size) : Calls Tryd.prog 7 #[.string s] w fun e w' => e = .returned (.bool true) ∧ Below w.heap.size w w' := by
  have hx := Lib.hid (show lexR s.data.toList = .err 0 30 by unfold lexR; rw [if_pos (by rw [len_s]; exact h)])
  go_enter Tryd.func7, Tryd.ntmps7
  go_wp2_with fail
  refine (shown_any _ hL).mono ?_
  rintro e W1 ⟨rfl, b1⟩
  have B := Lib.hid b1
  clear b1
  go_wp2_with fail
  refine (lex_err s _ 0 30 hx.out (hL.below B.out) (by omega)).mono ?_
  rintro e W2 ⟨A2, c2, rfl, b2⟩
  obtain ⟨V2, hV2⟩ : ∃ V2, V2 = W2.alloc (.cells #[.int .i64 0, .int .i64 30] 26) := ⟨_, rfl⟩
  have HV := Lib.hid hV2
  have F2 := Lib.hid (show FaultAt V2 W2.heap.size 0 30 by rw [hV2]; exact FaultAt.new W2 _ _)
  have hu := show Below W1.heap.size W1 V2 by rw [hV2]; exact up2 b2 (up _)
  replace B := Lib.hid (up2 B.out hu)
  obtain ⟨f0, f1, _⟩ := F2.out
  clear b2 hu
  rw [hV2] at f0 f1
  clear hV2
  go_wp2
  go_ret
  exact ⟨rfl, by rw [← HV.out]; exact B.out⟩

set_option maxRecDepth 100000 in
set_option maxHeartbeats 1000000 in
theorem walk_err (s : ByteArray) (hs : s.size ≤ 140737488355320) (w : World) (hL : Laid w) (p e0 : Int) (h : s.size ≤ 65536) (he : lexR s.data.toList = .err p e0) : Calls Tryd.prog 7 #[.string s] w fun e w' => e = .returned (.bool true) ∧ Below w.heap.size w w' := by
  have hne := lexR_ne he
  have hl : lexL s.data.toList 0 = .err p e0 := by rw [← lexR_small (by rw [len_s]; exact h)]; exact he
  obtain ⟨h30, m, rfl, hm, ⟨us, hus⟩, q, hq⟩ := cut_err hl
  rw [len_s] at hm
  have hx := Lib.hid he
  have e1 : (e0 == 0) = false := by simpa using hne
  have e2 : (e0 == 30) = false := by simpa using h30
  have T1 := Lib.hid (show lexR (s.extract 0 m).data.toList = .ok us by rw [ext_list, List.drop_zero, lexR_small (by rw [List.length_take, len_s]; omega)]; exact hus)
  have T2 := Lib.hid (show lexR (s.extract m s.size).data.toList = .err q e0 by rw [ext_list, List.take_of_length_le (by rw [len_s]; omega), lexR_small (by rw [List.length_drop, len_s]; omega)]; exact hq)
  have z1 : (s.extract 0 m).size ≤ 140737488355328 := by rw [← len_s, ext_list, List.drop_zero, List.length_take, len_s]; omega
  have z2 : (s.extract m s.size).size ≤ 140737488355328 := by rw [← len_s, ext_list, List.length_drop, List.length_take, len_s]; omega
  have hml : m ≤ s.size := by omega
  clear he hne hl h30 hus hq
  go_enter Tryd.func7, Tryd.ntmps7
  go_wp2_with fail
  refine (shown_any _ hL).mono ?_
  rintro e W1 ⟨rfl, b1⟩
  have B := Lib.hid b1
  clear b1
  go_wp2_with fail
  refine (lex_err s _ m e0 hx.out (hL.below B.out) (by omega)).mono ?_
  rintro e W2 ⟨A2, c2, rfl, b2⟩
  obtain ⟨V2, hV2⟩ : ∃ V2, V2 = W2.alloc (.cells #[.int .i64 m, .int .i64 e0] 26) := ⟨_, rfl⟩
  have HV := Lib.hid hV2
  have F2 := Lib.hid (show FaultAt V2 W2.heap.size m e0 by rw [hV2]; exact FaultAt.new W2 _ _)
  have hu := show Below W1.heap.size W1 V2 by rw [hV2]; exact up2 b2 (up _)
  replace B := Lib.hid (up2 B.out hu)
  obtain ⟨f0, f1, _⟩ := F2.out
  clear b2 hu
  rw [hV2] at f0 f1
  clear hV2
  have hz : W2.heap.size < V2.heap.size := F2.out.2.2
  go_wp2_with fail
  rw [← HV.out]
  refine (read_ok _ _ us _ T1.out rfl (hL.below B.out) z1).mono ?_
  rintro e W3 ⟨A3, c3, rfl, _, b3, _⟩
  have F3 := Lib.hid (F2.out.below b3)
  replace B := Lib.hid (up2 B.out b3)
  clear b3 f0 f1
  obtain ⟨f0, f1, _⟩ := F3.out
  go_wp2_with fail
  refine (read_bad _ _ q e0 T2.out (hL.below B.out) z2).mono ?_
  rintro e W4 ⟨A4, c4, rfl, b4⟩
  replace B := Lib.hid (up2 B.out b4)
  clear b4
  go_wp2
  go_ret
  exact ⟨rfl, B.out⟩
theorem walk (s : ByteArray) (hs : s.size ≤ 140737488355320) (w : World) (hL : Laid w) : Calls Tryd.prog 7 #[.string s] w fun e w' => e = .returned (.bool true) ∧ Below w.heap.size w w' := by
  cases h : lexR s.data.toList with
  | ok ts => exact walk_ok s hs w hL ts h
  | err p e0 =>
    by_cases hb : 65536 < s.size
    · exact walk_long s hs w hL hb
    · exact walk_err s hs w hL p e0 (by omega) h

theorem reads (os : Os) {H : Type} (enc : TypeId × Value → H) : ∃ places, DataW.whole enc Tryd.prog ((startWorld os).forCall (fun _ _ => 0) ⟨#[], #[.string ⟨#[]⟩], []⟩).memory Tryd.f7.params.toList Rows.lexFaultsSpec.vars false (#[.string ⟨#[]⟩] : Array Value).toList 8 = some ([.lit (.string [])], [], places) :=
  ⟨[], by kernel_rfl⟩
set_option maxRecDepth 100000 in
set_option maxHeartbeats 1000000 in
theorem lifted (os : Os) (started : os.Started) (H : Type) (enc : TypeId × Value → H) (F : Stop.Interp) :
    ReturnsInHanded {} Tryd.checked os 7 .any ((OpenSpec.ofChange Rows.lexFaultsSpec).preRow enc Tryd.prog Tryd.f7 Rows.lexFaultsRow.domain false Rows.lexFaultsRow.laid) (((OpenSpec.ofChange Rows.lexFaultsSpec).at F).post enc Tryd.prog Tryd.f7 false true false false) := by
  obtain ⟨places, hx⟩ := reads os enc
  refine returnsInHanded_of_row (C := Tryd.checked) (s := OpenSpec.ofChange Rows.lexFaultsSpec) lawOwn started (by kernel_rfl) Tryd.func7
    (witness_row_atRef (enc := enc) (C := Tryd.checked) false (startWorld os) #[.string ⟨#[]⟩] rfl (by kernel_rfl) (by kernel_rfl) (by kernel_rfl)
      (OpenSpec.preRow_of_cond 8 hx (by kernel_rfl) (fun k hk => by cases hk) (by kernel_rfl) (start_met os _))) ?_
  intro W base args ds gs before hval0 hW _ _ hwt hlaid _ _
  have hval : ∀ (j : Nat) t v, Tryd.f7.params[j]? = some t → args[j]? = some v → Value.okWide Tryd.prog W .any base t v := hval0
  have hW' := hW
  obtain ⟨p, q, hA0, hV, rfl, hfz, hnd⟩ := hW
  have hA : DataW.TrodAll enc Tryd.prog W 0 (fun _ => true) true Tryd.f7.params.toList args.toList ds p := hA0
  rw [Tryd.params7] at hA hval
  obtain ⟨rfl, rfl⟩ := trodVars_none hV
  simp only [List.append_nil] at hW'
  obtain ⟨v0, vs0, d0, ds0, p0, q0, hargs, rfl, hp, h0, z0⟩ := trodAll_cons hA
  obtain ⟨rfl, rfl, rfl⟩ := trodAll_nil z0
  obtain rfl : args = #[v0] := by cases args; simp_all
  have hback := fun (W' : World) (hg : Below W.heap.size W W') (sp : Nat → Bool) (hs : ∀ q ∈ p, sp q.block = true) => lawArgsB hg (sp := sp) (by kernel_rfl) hA (fun q hq => hW'.lt q hq) hs
  have hw0 := wt_of (P := Tryd.prog) hwt
  obtain ⟨a0, rfl, rfl, _, _⟩ := Go.ChangeMaps.open_string Tryd.underlying9 (hval 0 9 v0 rfl rfl) h0
  obtain ⟨hs0, hw1⟩ := wt_str hw0
  refine (walk a0 hs0 W (laid_of hlaid)).mono fun e W' ⟨he, hg⟩ => ?_
  subst he
  exact ⟨_, rfl, lawPost (pa := p) (pv := []) hW' hg (List.append_nil _).symm (fun _ _ _ => (trodAll_cons_mk (shut_bool Tryd.underlying4 _) trodAll_mk0)) (fun sp hs => hback W' hg sp hs) (fun _ _ => rfl)
    (ok_one (by kernel_rfl) rfl (okWide_bool_mk Tryd.underlying4 _))⟩
theorem said : Rows.LexFaultsSaid :=
  OpenClaim.holds_of_cond 7 Tryd.f7 rfl rfl rfl rfl rfl rfl rfl ⟨rfl, rfl, rfl, rfl, rfl⟩ rfl rfl rfl rfl rfl (by kernel_rfl) Tryd.func7 (by kernel_rfl)
    (of_decide_eq_true (by kernel_rfl)) (by unfold Func.isWrapper; first | (rw [if_pos (by decide +kernel)]; kernel_rfl) | (rw [if_neg (by decide +kernel)]; exact ⟨rfl, rfl⟩))
    (fun os started H enc _ F => by rw [OpenClaim.pre_eq_preRow]; exact lifted os started H enc F)
theorem plain (f : FuncId) (fn : Func) (hf : Tryd.pinned.checked.prog.funcNamed "windrow/windrowlaw03.LexFaults" = some f) (hfn : Tryd.pinned.checked.prog.funcs[f]? = some fn) :
    true = Tryd.pinned.checked.prog.looks [] ∧ ∀ (j : Nat) t, fn.params[j]? = some t → Tryd.pinned.checked.prog.wantsStandIn t = false := by
  obtain rfl : f = 7 := Option.some.inj ((show Tryd.prog.funcNamed "windrow/windrowlaw03.LexFaults" = some 7 by kernel_rfl).symm.trans hf) |>.symm
  obtain rfl : fn = Tryd.f7 := (Option.some.inj (Tryd.func7.symm.trans hfn)).symm
  refine ⟨by kernel_rfl, fun j t ht => ?_⟩
  rw [Tryd.params7] at ht
  have hm : t ∈ [9] := by simpa using Array.mem_of_getElem? ht
  have hall : ([9].all fun u => !Tryd.prog.wantsStandIn u) = true := by kernel_rfl
  exact (show Tryd.prog.wantsStandIn t = false by simpa using List.all_eq_true.1 hall t hm)
/-- The statement. -/
theorem proved : Rows.LexFaultsCardSaid :=
  Claim7.holds_tied_plain_at .later [] _ _ _ _ said (fun _ h => by cases h) (by kernel_rfl) (fun _ h => by cases h) lexFaults_row_tie rfl ⟨rfl, rfl⟩ (by kernel_rfl) rfl plain (by kernel_rfl)
end Go.Proofs.YtphcjpomneejmaaDoor.lexFaults
