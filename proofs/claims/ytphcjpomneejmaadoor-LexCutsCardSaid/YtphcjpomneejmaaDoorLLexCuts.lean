/- For every text and every number: places of tokens rise and lie in the text; the text that is cut ahead of a token has the tokens ahead of it. The row lists five package-level variables of the library with what the program text lays in them; the card ties them to it. No other condition. -/
import Derived.Test.YtphcjpomneejmaaDoorLexLx
namespace Go.Proofs.YtphcjpomneejmaaDoor.lexCuts
open Go.ChangeShapes Go.WideShapes Go.ChangeAt Go.RowKit
set_option linter.unusedVariables false

set_option maxRecDepth 100000 in
set_option maxHeartbeats 2000000 in
theorem walk_bad (s : ByteArray) (hs : s.size ≤ 140737488355320) (at0 : Int) (hat : -9223372036854775808 ≤ at0 ∧ at0 ≤ 9223372036854775807) (w : World) (hL : Laid w) (p e0 : Int) (h : lexR s.data.toList = .err p e0) : Calls Tryd.prog 6 #[.string s, .int .i64 at0] w fun e w' => e = .returned (.bool true) ∧ Below w.heap.size w w' := by
  have hx := Lib.hid h
  clear h
  go_enter Tryd.func6, Tryd.ntmps6
  go_wp2_with fail
  refine (shown_any _ hL).mono ?_
  rintro e W1 ⟨rfl, b1⟩
  have B := Lib.hid b1
  clear b1
  go_wp2_with fail
  refine (read_bad s _ p e0 hx.out (hL.below B.out) (by omega)).mono ?_
  rintro e W2 ⟨A2, c2, rfl, b2⟩
  replace B := Lib.hid (up2 B.out b2)
  clear b2
  go_wp2
  go_ret
  exact ⟨rfl, B.out⟩

set_option maxRecDepth 100000 in
set_option maxHeartbeats 2000000 in
theorem walk_nil (s : ByteArray) (hs : s.size ≤ 140737488355320) (at0 : Int) (hat : -9223372036854775808 ≤ at0 ∧ at0 ≤ 9223372036854775807) (w : World) (hL : Laid w) (h : lexR s.data.toList = .ok []) : Calls Tryd.prog 6 #[.string s, .int .i64 at0] w fun e w' => e = .returned (.bool true) ∧ Below w.heap.size w w' := by
  obtain ⟨ts, n, h', hts, hn'⟩ : ∃ (ts : List Tk) (n : Nat), lexR s.data.toList = .ok ts ∧ ts.length = n ∧ n = 0 := ⟨[], 0, h, rfl, rfl⟩
  have hx := Lib.hid h'
  have hn := Lib.hid hts
  subst hn'
  clear h h' hts
  go_enter Tryd.func6, Tryd.ntmps6
  go_wp2_with fail
  refine (shown_any _ hL).mono ?_
  rintro e W1 ⟨rfl, b1⟩
  have B := Lib.hid b1
  clear b1
  go_wp2_with fail
  refine (read_ok s _ ts 0 hx.out hn.out (hL.below B.out) (by omega)).mono ?_
  rintro e W2 ⟨A2, c2, rfl, r2, b2, n2⟩
  have R2 := Lib.hid r2
  replace B := Lib.hid (up2 B.out b2)
  clear b2 r2
  go_wp2
  go_ret
  exact ⟨rfl, B.out⟩

set_option maxRecDepth 100000 in
set_option maxHeartbeats 2000000 in
theorem walk_ok (s : ByteArray) (hs : s.size ≤ 140737488355320) (at0 : Int) (hat : -9223372036854775808 ≤ at0 ∧ at0 ≤ 9223372036854775807) (w : World) (hL : Laid w) (ts : List Tk) (h : lexR s.data.toList = .ok ts) (hpos : 0 < ts.length) : Calls Tryd.prog 6 #[.string s, .int .i64 at0] w fun e w' => e = .returned (.bool true) ∧ Below w.heap.size w w' := by
  have hx := Lib.hid h
  have hbd := Lib.hid (lex_bd h)
  obtain ⟨hsz, hl⟩ := lexR_ok h
  rw [len_s] at hsz
  have hpl := lex_places _ _ _ (Nat.le_refl _) _ hl
  have HP1 := Lib.hid hpl.1
  have HP2 := Lib.hid hpl.2
  have HL0 := Lib.hid hl
  obtain ⟨n, hts⟩ : ∃ n, ts.length = n := ⟨_, rfl⟩
  have hn := Lib.hid hts
  have hn1 : 0 < n := by omega
  have hn2 : n ≤ 65536 := by have := (lex_bd h).2; omega
  have hn0 : ((n : Int) == 0) = false := by simp; omega
  have hn00 : (n == 0) = false := by simp; omega
  obtain ⟨K, hK, hKe⟩ := pick_at at0 hn1
  have hsp := split_at (show K < ts.length by omega)
  rw [hsp] at hl
  obtain ⟨m, hm, hml, hcut, _⟩ := cut_tok hl
  rw [len_s] at hml
  have HC := Lib.hid (show lexR (s.extract 0 m).data.toList = .ok (ts.take K) by rw [ext_list, List.drop_zero, lexR_small (by rw [List.length_take, len_s]; omega)]; exact hcut)
  have HM := Lib.hid hm
  have zC : (s.extract 0 m).size ≤ 140737488355328 := by rw [← len_s, ext_list, List.drop_zero, List.length_take, len_s]; omega
  have hml2 : m ≤ s.size := by omega
  have HKL := Lib.hid (show (ts.take K).length = K by rw [List.length_take]; omega)
  have hw1 : 0 ≤ IntKind.u64.wrap at0 := wrap_u64_nonneg _
  have hKE := Lib.hid hKe
  clear hKe hsp hcut hm
  clear h hl hpl hts hpos
  go_enter Tryd.func6, Tryd.ntmps6
  go_wp2_with fail
  refine (shown_any _ hL).mono ?_
  rintro e W1 ⟨rfl, b1⟩
  have B := Lib.hid b1
  clear b1
  go_wp2_with fail
  refine (read_ok s _ ts n hx.out hn.out (hL.below B.out) (by omega)).mono ?_
  rintro e W2 ⟨A2, c2, rfl, r2, b2, n2⟩
  have R2 := Lib.hid r2
  replace B := Lib.hid (up2 B.out b2)
  clear b2 r2
  go_wp2_with fail
  go_loopw [36] (fun i wr => ∃ k q : Nat, k ≤ n ∧ i = .int .i64 k ∧ wr = W2.drewN q) (fun i _ => n - (intOf i).toNat)
  case atStart => exact ⟨0, 0, by omega, rfl, rfl⟩
  case round =>
    obtain ⟨k, q, hk, rfl, rfl⟩ := hrel
    by_cases hlt : k < n
    · obtain ⟨b, o, rfl, hb, hc⟩ := R2.out.at_ k (by rw [hn.out]; exact hlt)
      have hmem := HP1.out _ (nth_mem (l := ts) (k := k) (by rw [hn.out]; exact hlt))
      rw [len_s] at hmem
      have t1 : decide ((nth ts k).a < 0) = false := decide_eq_false (by omega)
      have t2 : decide ((s.size : Int) ≤ (nth ts k).a) = false := decide_eq_false (by omega)
      have d1 := fun m => (show (W2.drewN m).cell? ⟨b, o + k * 4 + 1, none⟩ = some (.int .i64 (nth ts k).a) from (hc k (by rw [hn.out]; exact hlt)).2.1)
      have q1 := idxT b o n c2 (k : Int) (by omega) (by omega)
      rw [Int.toNat_natCast] at q1
      by_cases hk0 : k = 0
      · have hk1 : decide (0 < k) = false := by simpa using hk0
        clear hk0 hc hmem
        go_wp2
        go_quiet (fail)
        clear t1 t2 d1 q1
        go_wp2
        go_roundw
        case rel => exact ⟨k + 1, _, by omega, by go_num, rfl⟩
        case measure => simp [intOf]; omega
      · have hk1 : decide (0 < k) = true := by simp; omega
        have hk2 : (0 : Int) ≤ (k : Int) - 1 := by omega
        have hlt1 : (nth ts (k - 1)).a < (nth ts k).a := pw_at HP2.out (by omega) (by rw [hn.out]; exact hlt)
        have t3 : decide ((nth ts k).a ≤ (nth ts (k - 1)).a) = false := decide_eq_false (by omega)
        have d2 := fun m => (show (W2.drewN m).cell? ⟨b, o + (k - 1) * 4 + 1, none⟩ = some (.int .i64 (nth ts (k - 1)).a) from (hc (k - 1) (by rw [hn.out]; omega)).2.1)
        have q2 : ((k : Int) - 1).toNat = k - 1 := by omega
        have q3 := idxT b o n c2 ((k : Int) - 1) (by omega) (by omega)
        rw [q2] at q3
        clear q2
        have q4 : IntKind.i64.wrap ((k : Int) - 1) = (k : Int) - 1 := IntWalk.i64_in _ (by omega)
        clear hk0 hc hmem hlt1
        go_wp2
        go_quiet (fail)
        clear q4
        go_wp2
        go_roundw
        case rel => exact ⟨k + 1, _, by omega, by go_num, rfl⟩
        case measure => simp [intOf]; omega
    · obtain rfl : k = n := by omega
      obtain ⟨b, o, rfl, hb, hc⟩ := R2.out.at_ K (by rw [hn.out]; exact hK)
      have d1 := (show (W2.drewN q).cell? ⟨b, o + K * 4 + 1, none⟩ = some (.int .i64 (nth ts K).a) from (hc K (by rw [hn.out]; exact hK)).2.1)
      rw [HM.out] at d1
      have q1 := idxT b o k c2 (K : Int) (by omega) (by omega)
      rw [Int.toNat_natCast] at q1
      have hKe := hKE.out
      clear hc
      go_wp2_with fail
      have B2 := Lib.hid (below_drewN (k := q) B.out B.out.size)
      have RQ := Lib.hid (R2.out.below (below_drewN (k := q) (Below.refl _ _) (Nat.le_refl _)))
      refine (read_ok _ _ (ts.take K) K HC.out HKL.out (hL.below B2.out) zC).mono ?_
      rintro e W3 ⟨A3, c3, rfl, r3, b3, n3⟩
      have R3 := Lib.hid r3
      replace RQ := Lib.hid (RQ.out.below b3)
      replace B2 := Lib.hid (up2 B2.out b3)
      have hKc : K ≤ c2 := by omega
      clear r3 b3 d1 q1
      go_wp2_with fail
      refine (same_at A3 (some ⟨b, o, none⟩) (ts.take K) (ts.take K) K K c3 c2 0 0 _ HKL.out HKL.out R3.out (RQ.out.take K) (by rw [HKL.out]; omega) (sh_zero _).symm ⟨by omega, by omega⟩ (fun t ht => hbd.out.1 t (List.mem_of_mem_take ht))).mono ?_
      rintro e W4 ⟨rfl, b4⟩
      replace B2 := Lib.hid (up2 B2.out b4)
      clear b4
      go_wp2
      go_ret
      exact ⟨rfl, B2.out⟩
theorem walk (s : ByteArray) (hs : s.size ≤ 140737488355320) (at0 : Int) (hat : -9223372036854775808 ≤ at0 ∧ at0 ≤ 9223372036854775807) (w : World) (hL : Laid w) : Calls Tryd.prog 6 #[.string s, .int .i64 at0] w fun e w' => e = .returned (.bool true) ∧ Below w.heap.size w w' := by
  cases h : lexR s.data.toList with
  | err p e0 => exact walk_bad s hs at0 hat w hL p e0 h
  | ok ts =>
    by_cases hp : 0 < ts.length
    · exact walk_ok s hs at0 hat w hL ts h hp
    · have h0 : ts = [] := List.length_eq_zero_iff.1 (by omega)
      subst h0
      exact walk_nil s hs at0 hat w hL h

theorem reads (os : Os) {H : Type} (enc : TypeId × Value → H) : ∃ places, DataW.whole enc Tryd.prog ((startWorld os).forCall (fun _ _ => 0) ⟨#[], #[.string ⟨#[]⟩, .int .i64 0], []⟩).memory Tryd.f6.params.toList Rows.lexCutsSpec.vars false (#[.string ⟨#[]⟩, .int .i64 0] : Array Value).toList 8 = some ([.lit (.string []), .lit (.int .i64 0)], [], places) :=
  ⟨[], by kernel_rfl⟩
set_option maxRecDepth 100000 in
set_option maxHeartbeats 1000000 in
theorem lifted (os : Os) (started : os.Started) (H : Type) (enc : TypeId × Value → H) (F : Stop.Interp) :
    ReturnsInHanded {} Tryd.checked os 6 .any ((OpenSpec.ofChange Rows.lexCutsSpec).preRow enc Tryd.prog Tryd.f6 Rows.lexCutsRow.domain false Rows.lexCutsRow.laid) (((OpenSpec.ofChange Rows.lexCutsSpec).at F).post enc Tryd.prog Tryd.f6 false true false false) := by
  obtain ⟨places, hx⟩ := reads os enc
  refine returnsInHanded_of_row (C := Tryd.checked) (s := OpenSpec.ofChange Rows.lexCutsSpec) lawOwn started (by kernel_rfl) Tryd.func6
    (witness_row_atRef (enc := enc) (C := Tryd.checked) false (startWorld os) #[.string ⟨#[]⟩, .int .i64 0] rfl (by kernel_rfl) (by kernel_rfl) (by kernel_rfl)
      (OpenSpec.preRow_of_cond 8 hx (by kernel_rfl) (fun k hk => by cases hk) (by kernel_rfl) (start_met os _))) ?_
  intro W base args ds gs before hval0 hW _ _ hwt hlaid _ _
  have hval : ∀ (j : Nat) t v, Tryd.f6.params[j]? = some t → args[j]? = some v → Value.okWide Tryd.prog W .any base t v := hval0
  have hW' := hW
  obtain ⟨p, q, hA0, hV, rfl, hfz, hnd⟩ := hW
  have hA : DataW.TrodAll enc Tryd.prog W 0 (fun _ => true) true Tryd.f6.params.toList args.toList ds p := hA0
  rw [Tryd.params6] at hA hval
  obtain ⟨rfl, rfl⟩ := trodVars_none hV
  simp only [List.append_nil] at hW'
  obtain ⟨v0, vs0, d0, ds0, p0, q0, hargs, rfl, hp, h0, z0⟩ := trodAll_cons hA
  obtain ⟨v1, vs1, d1, ds1, p1, q1, rfl, rfl, rfl, h1, z1⟩ := trodAll_cons z0
  obtain ⟨rfl, rfl, rfl⟩ := trodAll_nil z1
  obtain rfl : args = #[v0, v1] := by cases args; simp_all
  have hback := fun (W' : World) (hg : Below W.heap.size W W') (sp : Nat → Bool) (hs : ∀ q ∈ p, sp q.block = true) => lawArgsB hg (sp := sp) (by kernel_rfl) hA (fun q hq => hW'.lt q hq) hs
  have hw0 := wt_of (P := Tryd.prog) hwt
  obtain ⟨a0, rfl, rfl, _, _⟩ := Go.ChangeMaps.open_string Tryd.underlying9 (hval 0 9 v0 rfl rfl) h0
  obtain ⟨hs0, hw1⟩ := wt_str hw0
  obtain ⟨a1, rfl, rfl, _, w1⟩ := open_int Tryd.underlying3 (hval 1 3 v1 rfl rfl) h1
  have hw2 := wt_skip hw1
  refine (walk a0 hs0 a1 (rng_i64 w1) W (laid_of hlaid)).mono fun e W' ⟨he, hg⟩ => ?_
  subst he
  exact ⟨_, rfl, lawPost (pa := p) (pv := []) hW' hg (List.append_nil _).symm (fun _ _ _ => (trodAll_cons_mk (shut_bool Tryd.underlying4 _) trodAll_mk0)) (fun sp hs => hback W' hg sp hs) (fun _ _ => rfl)
    (ok_one (by kernel_rfl) rfl (okWide_bool_mk Tryd.underlying4 _))⟩
theorem said : Rows.LexCutsSaid :=
  OpenClaim.holds_of_cond 6 Tryd.f6 rfl rfl rfl rfl rfl rfl rfl ⟨rfl, rfl, rfl, rfl, rfl⟩ rfl rfl rfl rfl rfl (by kernel_rfl) Tryd.func6 (by kernel_rfl)
    (of_decide_eq_true (by kernel_rfl)) (by unfold Func.isWrapper; first | (rw [if_pos (by decide +kernel)]; kernel_rfl) | (rw [if_neg (by decide +kernel)]; exact ⟨rfl, rfl⟩))
    (fun os started H enc _ F => by rw [OpenClaim.pre_eq_preRow]; exact lifted os started H enc F)
theorem plain (f : FuncId) (fn : Func) (hf : Tryd.pinned.checked.prog.funcNamed "windrow/windrowlaw03.LexCuts" = some f) (hfn : Tryd.pinned.checked.prog.funcs[f]? = some fn) :
    true = Tryd.pinned.checked.prog.looks [] ∧ ∀ (j : Nat) t, fn.params[j]? = some t → Tryd.pinned.checked.prog.wantsStandIn t = false := by
  obtain rfl : f = 6 := Option.some.inj ((show Tryd.prog.funcNamed "windrow/windrowlaw03.LexCuts" = some 6 by kernel_rfl).symm.trans hf) |>.symm
  obtain rfl : fn = Tryd.f6 := (Option.some.inj (Tryd.func6.symm.trans hfn)).symm
  refine ⟨by kernel_rfl, fun j t ht => ?_⟩
  rw [Tryd.params6] at ht
  have hm : t ∈ [9, 3] := by simpa using Array.mem_of_getElem? ht
  have hall : ([9, 3].all fun u => !Tryd.prog.wantsStandIn u) = true := by kernel_rfl
  exact (show Tryd.prog.wantsStandIn t = false by simpa using List.all_eq_true.1 hall t hm)
/-- The statement. -/
theorem proved : Rows.LexCutsCardSaid :=
  Claim7.holds_tied_plain_at .later [] _ _ _ _ said (fun _ h => by cases h) (by kernel_rfl) (fun _ h => by cases h) lexCuts_row_tie rfl ⟨rfl, rfl⟩ (by kernel_rfl) rfl plain (by kernel_rfl)
end Go.Proofs.YtphcjpomneejmaaDoor.lexCuts
