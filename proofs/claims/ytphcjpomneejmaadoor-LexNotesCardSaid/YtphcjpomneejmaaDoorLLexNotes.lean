/- For every text and every note: a note at the end of a text changes nothing. The row lists five package-level variables of the library with what the program text lays in them; the card ties them to it. No other condition. -/
import Derived.Test.YtphcjpomneejmaaDoorLexNt
namespace Go.Proofs.YtphcjpomneejmaaDoor.lexNotes
open Go.ChangeShapes Go.WideShapes Go.ChangeAt Go.RowKit
set_option linter.unusedVariables false

set_option maxRecDepth 100000 in
set_option maxHeartbeats 1500000 in
theorem walk_bad (s : ByteArray) (hs : s.size ≤ 140737488355320) (t : ByteArray) (ht : t.size ≤ 140737488355320) (w : World) (hL : Laid w) (p e0 : Int) (h : lexR s.data.toList = .err p e0) : Calls Tryd.prog 10 #[.string s, .string t] w fun e w' => e = .returned (.bool true) ∧ Below w.heap.size w w' := by
  have hx := Lib.hid h
  clear h
  go_enter Tryd.func10, Tryd.ntmps10
  go_wp2_with fail
  refine (shown_any _ hL).mono ?_
  rintro e W1 ⟨rfl, b1⟩
  have B := Lib.hid b1
  clear b1
  go_wp2_with fail
  refine (read_bad s _ p e0 hx.out (hL.below B.out) (by omega)).mono ?_
  rintro e W2 ⟨A2, c2, rfl, b2⟩
  replace B := Lib.hid (up2 B.out b2)
  clear b2
  go_wp2
  go_ret
  exact ⟨rfl, B.out⟩

set_option maxRecDepth 100000 in
set_option maxHeartbeats 1500000 in
theorem walk_big (s : ByteArray) (hs : s.size ≤ 140737488355320) (t : ByteArray) (ht : t.size ≤ 140737488355320) (w : World) (hL : Laid w) (ts : List Tk) (h : lexR s.data.toList = .ok ts) (hbig : 63536 < s.size) : Calls Tryd.prog 10 #[.string s, .string t] w fun e w' => e = .returned (.bool true) ∧ Below w.heap.size w w' := by
  obtain ⟨n, hts⟩ : ∃ n, ts.length = n := ⟨_, rfl⟩
  have hx := Lib.hid h
  have hn := Lib.hid hts
  have hbd : decide ((63536 : Int) < (s.size : Int)) = true := decide_eq_true (by omega)
  clear h hts hbig
  go_enter Tryd.func10, Tryd.ntmps10
  go_wp2_with fail
  refine (shown_any _ hL).mono ?_
  rintro e W1 ⟨rfl, b1⟩
  have B := Lib.hid b1
  clear b1
  go_wp2_with fail
  refine (read_ok s _ ts n hx.out hn.out (hL.below B.out) (by omega)).mono ?_
  rintro e W2 ⟨A2, c2, rfl, r2, b2, n2⟩
  have R2 := Lib.hid r2
  replace B := Lib.hid (up2 B.out b2)
  clear b2 r2
  go_wp2
  go_ret
  exact ⟨rfl, B.out⟩

set_option maxRecDepth 100000 in
set_option maxHeartbeats 1500000 in
theorem walk_ok (s : ByteArray) (hs : s.size ≤ 140737488355320) (t : ByteArray) (ht : t.size ≤ 140737488355320) (w : World) (hL : Laid w) (ts : List Tk) (h : lexR s.data.toList = .ok ts) (hsmall : s.size ≤ 63536) : Calls Tryd.prog 10 #[.string s, .string t] w fun e w' => e = .returned (.bool true) ∧ Below w.heap.size w w' := by
  obtain ⟨n, hts⟩ : ∃ n, ts.length = n := ⟨_, rfl⟩
  have hx := Lib.hid h
  have hn := Lib.hid hts
  have HBD := Lib.hid (lex_bd h)
  have HLX := Lib.hid (lexR_ok h).2
  have hbd : decide ((63536 : Int) < (s.size : Int)) = false := decide_eq_false (by omega)
  have HSM := Lib.hid hsmall
  obtain ⟨u, hu⟩ : ∃ u, u = s ++ (⟨#[32, 35]⟩ : ByteArray) := ⟨_, rfl⟩
  have hul := Lib.hid (show u.data.toList = s.data.toList ++ [32, 35] by rw [hu, app_list])
  have husz : u.size ≤ 63538 := by rw [← len_s, hul.out, List.length_append, len_s]; simp; omega
  have huz := Lib.hid (show u.size = s.size + 2 by rw [← len_s, hul.out, List.length_append, len_s]; rfl)
  have HU := Lib.hid hu
  clear h hts hsmall hu
  go_enter Tryd.func10, Tryd.ntmps10
  go_wp2_with fail
  refine (shown_any _ hL).mono ?_
  rintro e W1 ⟨rfl, b1⟩
  have B := Lib.hid b1
  clear b1
  go_wp2_with fail
  refine (read_ok s _ ts n hx.out hn.out (hL.below B.out) (by omega)).mono ?_
  rintro e W2 ⟨A2, c2, rfl, r2, b2, n2⟩
  have R2 := Lib.hid r2
  replace B := Lib.hid (up2 B.out b2)
  clear b2 r2
  obtain ⟨cap0, V, hcv, hrow0, hbv0⟩ := conv_row W2 u (by unfold maxLen; omega)
  rw [HU.out] at hcv
  have HROW := Lib.hid hrow0
  have HBV := Lib.hid hbv0
  clear hrow0 hbv0
  go_wp2_with fail
  clear hcv
  go_loopw [9, 8] (fun i s8 wr => ∃ (k g m cap : Nat) (nl : List UInt8), k ≤ t.size ∧ k ≤ 1000 ∧ i = .int .i64 k ∧ s8 = .slice (some ⟨g, 0, none⟩) m cap ∧ Hid (RowN wr W2.heap.size g m cap (u.data.toList ++ nl) ∧ Below W2.heap.size W2 wr ∧ nl.length ≤ k ∧ ∀ c ∈ nl, c.toNat ≠ 10)) (fun i _ _ => t.size - (intOf i).toNat)
  case atStart => exact ⟨0, W2.heap.size, u.size, cap0, [], by omega, by omega, rfl, by first | (rw [huz.out]; done) | (rw [HU.out]; done), by rw [List.append_nil]; exact HROW.out, HBV.out, by simp, fun c hc => by simp at hc⟩
  case round =>
    obtain ⟨k, g, m, cap, nl, hkt, hk1, rfl, rfl, HV⟩ := hrel
    by_cases hlt : k < t.size ∧ k < 1000
    · obtain ⟨h1, h2⟩ := hlt
      have h1' : decide (k < t.size) = true := decide_eq_true h1
      have h2' : decide ((k : Int) < 1000) = true := decide_eq_true (by omega)
      have hml := Lib.hid (show m ≤ 1000000 by
        have e1 := HV.out.1.2.1
        rw [List.length_append, len_s] at e1
        have := HV.out.2.2.1
        omega)
      have hbw := Lib.hid HV.out.2.1.size
      by_cases h10 : t[k].toNat = 10
      · have h10' : ((t[k].toNat : Int) != 10) = false := by rw [h10]; rfl
        clear h10
        go_wp2
        go_roundw
        case rel => exact ⟨k + 1, g, m, cap, nl, by omega, by omega, by go_num, rfl, HV.out.1, HV.out.2.1, by have := HV.out.2.2.1; omega, HV.out.2.2.2⟩
        case measure => simp [intOf]; omega
      · have h10' : ((t[k].toNat : Int) != 10) = true := by simp; omega
        have H10 := Lib.hid h10
        clear h10
        go_wp2_with (at_builtin; refine append_rowN rfl (.tmp 43) (.tmp 47) rfl W2.heap.size g m cap (u.data.toList ++ nl) t[k] rfl (RowN.below HV.out.1 (up _)) wr.heap.size 1 rfl (by go_simp) hml.out (by have := hbw.out; simp; omega) ?_; intro g1 cap1 w1 hrow1 hbel1; have HROW1 := Lib.hid hrow1; have HBEL1 := Lib.hid (hbel1 W2 (HV.out.2.1.alloc hbw.out _)); clear hrow1 hbel1)
        go_roundw
        case rel => exact ⟨k + 1, g1, m + 1, cap1, nl ++ [t[k]], by omega, by omega, by go_num, rfl, by rw [← List.append_assoc]; exact HROW1.out, HBEL1.out, by have := HV.out.2.2.1; simp; omega, fun c hc => by
          rcases List.mem_append.1 hc with hc | hc
          · exact HV.out.2.2.2 c hc
          · simp at hc; subst hc; exact H10.out⟩
        case measure => simp [intOf]; omega
    · have htest : decide (k < t.size) = false ∨ (decide (k < t.size) = true ∧ decide ((k : Int) < 1000) = false) := by
        by_cases h1 : k < t.size
        · exact .inr ⟨decide_eq_true h1, decide_eq_false (by omega)⟩
        · exact .inl (decide_eq_false h1)
      have hcv := HV.out.1.text
      have hnl := HV.out.2.2.1
      have HT := Lib.hid (show lexR (bs (u.data.toList ++ nl)).data.toList = .ok ts by
        rw [bs_list, hul.out, List.append_assoc, lexR_small (by rw [List.length_append, List.length_append, len_s]; have := HSM.out; simp; omega)]
        exact lex_note HLX.out HV.out.2.2.2)
      have hbz : (bs (u.data.toList ++ nl)).size ≤ 140737488355328 := by rw [bs_size, List.length_append, len_s]; omega
      have HLW := Lib.hid (hL.below (up2 B.out HV.out.2.1))
      have BW := Lib.hid (up2 B.out HV.out.2.1)
      have RW := Lib.hid (R2.out.below HV.out.2.1)
      clear hlt hnl
      rcases htest with hte | ⟨hte, hte2⟩
      all_goals
        go_wp2_with fail
        refine (read_ok _ _ ts n HT.out hn.out HLW.out hbz).mono ?_
        rintro e W3 ⟨A8, c8, rfl, r8, b8, n8⟩
        replace BW := Lib.hid (up2 BW.out b8)
        replace RW := Lib.hid (RW.out.below b8)
        have R8 := Lib.hid r8
        clear b8 r8 hcv
        go_wp2_with fail
        refine (same_at A2 A8 ts ts n n c2 c8 0 0 _ hn.out hn.out RW.out R8.out (by have := HBD.out.2; omega) (sh_zero _).symm ⟨by omega, by omega⟩ HBD.out.1).mono ?_
        rintro e W4 ⟨rfl, b4⟩
        replace BW := Lib.hid (up2 BW.out b4)
        clear b4
        go_wp2
        go_ret
        exact ⟨rfl, BW.out⟩
theorem walk (s : ByteArray) (hs : s.size ≤ 140737488355320) (t : ByteArray) (ht : t.size ≤ 140737488355320) (w : World) (hL : Laid w) : Calls Tryd.prog 10 #[.string s, .string t] w fun e w' => e = .returned (.bool true) ∧ Below w.heap.size w w' := by
  cases h : lexR s.data.toList with
  | err p e0 => exact walk_bad s hs t ht w hL p e0 h
  | ok ts =>
    by_cases hb : 63536 < s.size
    · exact walk_big s hs t ht w hL ts h hb
    · exact walk_ok s hs t ht w hL ts h (by omega)

theorem reads (os : Os) {H : Type} (enc : TypeId × Value → H) : ∃ places, DataW.whole enc Tryd.prog ((startWorld os).forCall (fun _ _ => 0) ⟨#[], #[.string ⟨#[]⟩, .string ⟨#[]⟩], []⟩).memory Tryd.f10.params.toList Rows.lexNotesSpec.vars false (#[.string ⟨#[]⟩, .string ⟨#[]⟩] : Array Value).toList 8 = some ([.lit (.string []), .lit (.string [])], [], places) :=
  ⟨[], by kernel_rfl⟩
set_option maxRecDepth 100000 in
set_option maxHeartbeats 1000000 in
theorem lifted (os : Os) (started : os.Started) (H : Type) (enc : TypeId × Value → H) (F : Stop.Interp) :
    ReturnsInHanded {} Tryd.checked os 10 .any ((OpenSpec.ofChange Rows.lexNotesSpec).preRow enc Tryd.prog Tryd.f10 Rows.lexNotesRow.domain false Rows.lexNotesRow.laid) (((OpenSpec.ofChange Rows.lexNotesSpec).at F).post enc Tryd.prog Tryd.f10 false true false false) := by
  obtain ⟨places, hx⟩ := reads os enc
  refine returnsInHanded_of_row (C := Tryd.checked) (s := OpenSpec.ofChange Rows.lexNotesSpec) lawOwn started (by kernel_rfl) Tryd.func10
    (witness_row_atRef (enc := enc) (C := Tryd.checked) false (startWorld os) #[.string ⟨#[]⟩, .string ⟨#[]⟩] rfl (by kernel_rfl) (by kernel_rfl) (by kernel_rfl)
      (OpenSpec.preRow_of_cond 8 hx (by kernel_rfl) (fun k hk => by cases hk) (by kernel_rfl) (start_met os _))) ?_
  intro W base args ds gs before hval0 hW _ _ hwt hlaid _ _
  have hval : ∀ (j : Nat) t v, Tryd.f10.params[j]? = some t → args[j]? = some v → Value.okWide Tryd.prog W .any base t v := hval0
  have hW' := hW
  obtain ⟨p, q, hA0, hV, rfl, hfz, hnd⟩ := hW
  have hA : DataW.TrodAll enc Tryd.prog W 0 (fun _ => true) true Tryd.f10.params.toList args.toList ds p := hA0
  rw [Tryd.params10] at hA hval
  obtain ⟨rfl, rfl⟩ := trodVars_none hV
  simp only [List.append_nil] at hW'
  obtain ⟨v0, vs0, d0, ds0, p0, q0, hargs, rfl, hp, h0, z0⟩ := trodAll_cons hA
  obtain ⟨v1, vs1, d1, ds1, p1, q1, rfl, rfl, rfl, h1, z1⟩ := trodAll_cons z0
  obtain ⟨rfl, rfl, rfl⟩ := trodAll_nil z1
  obtain rfl : args = #[v0, v1] := by cases args; simp_all
  have hback := fun (W' : World) (hg : Below W.heap.size W W') (sp : Nat → Bool) (hs : ∀ q ∈ p, sp q.block = true) => lawArgsB hg (sp := sp) (by kernel_rfl) hA (fun q hq => hW'.lt q hq) hs
  have hw0 := wt_of (P := Tryd.prog) hwt
  obtain ⟨a0, rfl, rfl, _, _⟩ := Go.ChangeMaps.open_string Tryd.underlying9 (hval 0 9 v0 rfl rfl) h0
  obtain ⟨hs0, hw1⟩ := wt_str hw0
  obtain ⟨a1, rfl, rfl, _, _⟩ := Go.ChangeMaps.open_string Tryd.underlying9 (hval 1 9 v1 rfl rfl) h1
  obtain ⟨hs1, hw2⟩ := wt_str hw1
  refine (walk a0 hs0 a1 hs1 W (laid_of hlaid)).mono fun e W' ⟨he, hg⟩ => ?_
  subst he
  exact ⟨_, rfl, lawPost (pa := p) (pv := []) hW' hg (List.append_nil _).symm (fun _ _ _ => (trodAll_cons_mk (shut_bool Tryd.underlying4 _) trodAll_mk0)) (fun sp hs => hback W' hg sp hs) (fun _ _ => rfl)
    (ok_one (by kernel_rfl) rfl (okWide_bool_mk Tryd.underlying4 _))⟩
theorem said : Rows.LexNotesSaid :=
  OpenClaim.holds_of_cond 10 Tryd.f10 rfl rfl rfl rfl rfl rfl rfl ⟨rfl, rfl, rfl, rfl, rfl⟩ rfl rfl rfl rfl rfl (by kernel_rfl) Tryd.func10 (by kernel_rfl)
    (of_decide_eq_true (by kernel_rfl)) (by unfold Func.isWrapper; first | (rw [if_pos (by decide +kernel)]; kernel_rfl) | (rw [if_neg (by decide +kernel)]; exact ⟨rfl, rfl⟩))
    (fun os started H enc _ F => by rw [OpenClaim.pre_eq_preRow]; exact lifted os started H enc F)
theorem plain (f : FuncId) (fn : Func) (hf : Tryd.pinned.checked.prog.funcNamed "windrow/windrowlaw03.LexNotes" = some f) (hfn : Tryd.pinned.checked.prog.funcs[f]? = some fn) :
    true = Tryd.pinned.checked.prog.looks [] ∧ ∀ (j : Nat) t, fn.params[j]? = some t → Tryd.pinned.checked.prog.wantsStandIn t = false := by
  obtain rfl : f = 10 := Option.some.inj ((show Tryd.prog.funcNamed "windrow/windrowlaw03.LexNotes" = some 10 by kernel_rfl).symm.trans hf) |>.symm
  obtain rfl : fn = Tryd.f10 := (Option.some.inj (Tryd.func10.symm.trans hfn)).symm
  refine ⟨by kernel_rfl, fun j t ht => ?_⟩
  rw [Tryd.params10] at ht
  have hm : t ∈ [9, 9] := by simpa using Array.mem_of_getElem? ht
  have hall : ([9, 9].all fun u => !Tryd.prog.wantsStandIn u) = true := by kernel_rfl
  exact (show Tryd.prog.wantsStandIn t = false by simpa using List.all_eq_true.1 hall t hm)
/-- The statement. -/
theorem proved : Rows.LexNotesCardSaid :=
  Claim7.holds_tied_plain_at .later [] _ _ _ _ said (fun _ h => by cases h) (by kernel_rfl) (fun _ h => by cases h) lexNotes_row_tie rfl ⟨rfl, rfl⟩ (by kernel_rfl) rfl plain (by kernel_rfl)
end Go.Proofs.YtphcjpomneejmaaDoor.lexNotes
