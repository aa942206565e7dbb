/- For all two texts: with a line end between they are read as the one text and its tokens, the line end, and the tokens of the other one. The row lists five package-level variables of the library with what the program text lays in them; the card ties them to it. No other condition. -/
import Derived.Test.YtphcjpomneejmaaDoorLexLw
namespace Go.Proofs.YtphcjpomneejmaaDoor.lexJoins
open Go.ChangeShapes Go.WideShapes Go.ChangeAt Go.RowKit
set_option linter.unusedVariables false

set_option maxRecDepth 100000 in
set_option maxHeartbeats 2000000 in
theorem walk_a (a : ByteArray) (ha : a.size ≤ 140737488355320) (b : ByteArray) (hb : b.size ≤ 140737488355320) (w : World) (hL : Laid w) (p e0 : Int) (h : lexR a.data.toList = .err p e0) : Calls Tryd.prog 9 #[.string a, .string b] w fun e w' => e = .returned (.bool true) ∧ Below w.heap.size w w' := by
  have hxa := Lib.hid h
  clear h
  go_enter Tryd.func9, Tryd.ntmps9
  go_wp2_with fail
  refine (shown_any _ hL).mono ?_
  rintro e W1 ⟨rfl, b1⟩
  have B := Lib.hid b1
  clear b1
  go_wp2_with fail
  refine (read_bad a _ p e0 hxa.out (hL.below B.out) (by omega)).mono ?_
  rintro e W2 ⟨A2, c2, rfl, b2⟩
  replace B := Lib.hid (up2 B.out b2)
  clear b2
  go_wp2_with fail
  refine (read_any b _ (hL.below B.out) (by omega)).mono ?_
  rintro e W3 ⟨A3, c3, rfl, _, b3⟩
  replace B := Lib.hid (up2 B.out b3)
  clear b3
  go_wp2
  go_ret
  exact ⟨rfl, B.out⟩

set_option maxRecDepth 100000 in
set_option maxHeartbeats 2000000 in
theorem walk_b (a : ByteArray) (ha : a.size ≤ 140737488355320) (b : ByteArray) (hb : b.size ≤ 140737488355320) (w : World) (hL : Laid w) (x : List Tk) (h : lexR a.data.toList = .ok x) (p e0 : Int) (k : lexR b.data.toList = .err p e0) : Calls Tryd.prog 9 #[.string a, .string b] w fun e w' => e = .returned (.bool true) ∧ Below w.heap.size w w' := by
  have hxa := Lib.hid h
  have hxb := Lib.hid k
  clear h k
  go_enter Tryd.func9, Tryd.ntmps9
  go_wp2_with fail
  refine (shown_any _ hL).mono ?_
  rintro e W1 ⟨rfl, b1⟩
  have B := Lib.hid b1
  clear b1
  go_wp2_with fail
  refine (read_ok a _ x _ hxa.out rfl (hL.below B.out) (by omega)).mono ?_
  rintro e W2 ⟨A2, c2, rfl, r2, b2, n2⟩
  have R2 := Lib.hid r2
  replace B := Lib.hid (up2 B.out b2)
  clear b2 r2
  go_wp2_with fail
  refine (read_bad b _ p e0 hxb.out (hL.below B.out) (by omega)).mono ?_
  rintro e W3 ⟨A3, c3, rfl, b3⟩
  replace B := Lib.hid (up2 B.out b3)
  clear b3
  go_wp2
  go_ret
  exact ⟨rfl, B.out⟩

set_option maxRecDepth 100000 in
set_option maxHeartbeats 2000000 in
theorem walk_far (a : ByteArray) (ha : a.size ≤ 140737488355320) (b : ByteArray) (hb : b.size ≤ 140737488355320) (w : World) (hL : Laid w) (x : List Tk) (h : lexR a.data.toList = .ok x) (y : List Tk) (k : lexR b.data.toList = .ok y) (hfar : 65535 < a.size + b.size) : Calls Tryd.prog 9 #[.string a, .string b] w fun e w' => e = .returned (.bool true) ∧ Below w.heap.size w w' := by
  have hxa := Lib.hid h
  have hxb := Lib.hid k
  have z2 := (lexR_ok k).1
  rw [len_s] at z2
  have hd : (65536 : Int) - 1 - (b.size : Int) < (a.size : Int) := by omega
  have hd2 : (65535 : Int) - (b.size : Int) < (a.size : Int) := by omega
  clear h k
  go_enter Tryd.func9, Tryd.ntmps9
  go_wp2_with fail
  refine (shown_any _ hL).mono ?_
  rintro e W1 ⟨rfl, b1⟩
  have B := Lib.hid b1
  clear b1
  go_wp2_with fail
  refine (read_ok a _ x _ hxa.out rfl (hL.below B.out) (by omega)).mono ?_
  rintro e W2 ⟨A2, c2, rfl, r2, b2, n2⟩
  have R2 := Lib.hid r2
  replace B := Lib.hid (up2 B.out b2)
  clear b2 r2
  go_wp2_with fail
  refine (read_ok b _ y _ hxb.out rfl (hL.below B.out) (by omega)).mono ?_
  rintro e W3 ⟨A3, c3, rfl, r3, b3, n3⟩
  have R3 := Lib.hid r3
  replace B := Lib.hid (up2 B.out b3)
  clear b3 r3
  go_wp2
  go_ret
  exact ⟨rfl, B.out⟩

set_option maxRecDepth 100000 in
set_option maxHeartbeats 2000000 in
theorem walk_near (a : ByteArray) (ha : a.size ≤ 140737488355320) (b : ByteArray) (hb : b.size ≤ 140737488355320) (w : World) (hL : Laid w) (x : List Tk) (h : lexR a.data.toList = .ok x) (y : List Tk) (k : lexR b.data.toList = .ok y) (hnear : a.size + b.size ≤ 65535) : Calls Tryd.prog 9 #[.string a, .string b] w fun e w' => e = .returned (.bool true) ∧ Below w.heap.size w w' := by
  have hxa := Lib.hid h
  have hxb := Lib.hid k
  have hdx := lex_bd h
  have hdy := lex_bd k
  have hx1 := hdx.2
  have hy1 := hdy.2
  have HDX := Lib.hid hdx
  have HDY := Lib.hid hdy
  have hj := lex_join (lexR_ok h).2 (lexR_ok k).2
  obtain ⟨all, hall⟩ : ∃ all, all = x ++ (⟨4, a.size, [], 0⟩ : Tk) :: y.map (mv (a.size + 1)) := ⟨_, rfl⟩
  have hcl : ((a ++ (⟨#[10]⟩ : ByteArray)) ++ b).data.toList = a.data.toList ++ 10 :: b.data.toList := by rw [app_list, app_list]; simp
  have hxc := Lib.hid (show lexR ((a ++ (⟨#[10]⟩ : ByteArray)) ++ b).data.toList = .ok all by
    rw [hcl, lexR_small (by rw [List.length_append, List.length_cons, len_s, len_s]; omega), hj, hall, len_s])
  have hlen : all.length = x.length + 1 + y.length := by rw [hall]; simp; omega
  have hn1 := Lib.hid (show nth all x.length = ⟨4, a.size, [], 0⟩ by
    unfold nth; rw [hall, List.getD_eq_getElem?_getD, List.getElem?_append_right (Nat.le_refl _)]; simp)
  have htk := Lib.hid (show all.take x.length = x.map (sh 0 0) by rw [hall, sh_zero, List.take_left])
  have hdr := Lib.hid (show all.drop (x.length + 1) = y.map (sh 0 (a.size + 1)) by
    rw [hall, ← map_sh (fun t ht => (hdy.1 t ht).1), ← List.drop_drop, List.drop_left]; rfl)
  have hsz : ((a ++ (⟨#[10]⟩ : ByteArray)) ++ b).size ≤ 140737488355328 := by rw [← len_s, hcl, List.length_append, List.length_cons, len_s, len_s]; omega
  have HLN := Lib.hid hlen
  have hd : (a.size : Int) ≤ (65536 : Int) - 1 - (b.size : Int) := by omega
  have hd2 : (a.size : Int) ≤ (65535 : Int) - (b.size : Int) := by omega
  have hzz : (a ++ (⟨#[10]⟩ : ByteArray)).size = a.size + 1 := by rw [← len_s, app_list, List.length_append, len_s]; rfl
  clear h k hdx hdy hj hall hcl hlen
  go_enter Tryd.func9, Tryd.ntmps9
  go_wp2_with fail
  refine (shown_any _ hL).mono ?_
  rintro e W1 ⟨rfl, b1⟩
  have B := Lib.hid b1
  clear b1
  go_wp2_with fail
  refine (read_ok a _ x _ hxa.out rfl (hL.below B.out) (by omega)).mono ?_
  rintro e W2 ⟨A2, c2, rfl, r2, b2, n2⟩
  have R2 := Lib.hid r2
  replace B := Lib.hid (up2 B.out b2)
  clear b2 r2
  go_wp2_with fail
  refine (read_ok b _ y _ hxb.out rfl (hL.below B.out) (by omega)).mono ?_
  rintro e W3 ⟨A3, c3, rfl, r3, b3, n3⟩
  have R3 := Lib.hid r3
  replace R2 := Lib.hid (R2.out.below b3)
  replace B := Lib.hid (up2 B.out b3)
  clear b3 r3
  go_wp2_with fail
  refine (read_ok _ _ all (x.length + 1 + y.length) hxc.out HLN.out (hL.below B.out) hsz).mono ?_
  rintro e W4 ⟨A4, c4, rfl, r4, b4, n4⟩
  have R4 := Lib.hid r4
  replace R2 := Lib.hid (R2.out.below b4)
  replace R3 := Lib.hid (R3.out.below b4)
  replace B := Lib.hid (up2 B.out b4)
  obtain ⟨bk, o, rfl, hbk, hc⟩ := r4.at_ x.length (by rw [HLN.out]; omega)
  have hcx := hc x.length (by rw [HLN.out]; omega)
  rw [hn1.out] at hcx
  obtain ⟨g0, g1, zg2, g3⟩ := hcx
  have g2 : W4.cell? ⟨bk, o + x.length * 4 + 2, none⟩ = some (.string ⟨#[]⟩) := zg2
  clear zg2
  have q1 := idxT bk o (x.length + 1 + y.length) c4 (x.length : Int) (by omega) (by omega)
  rw [Int.toNat_natCast] at q1
  have hcl1 : x.length ≤ c4 := by omega
  have hcl2 : x.length + 1 ≤ c4 := by omega
  clear b4 r4 hc
  go_wp2_with fail
  refine (same_at A2 (some ⟨bk, o, none⟩) x (all.take x.length) _ _ c2 c4 0 0 _ rfl (by rw [htk.out]; simp) R2.out (R4.out.take _) (by omega) htk.out ⟨by omega, by omega⟩ HDX.out.1).mono ?_
  rintro e W5 ⟨rfl, b5⟩
  replace R3 := Lib.hid (R3.out.below b5)
  replace R4 := Lib.hid (R4.out.below b5)
  replace B := Lib.hid (up2 B.out b5)
  clear b5 g0 g1 g2 g3
  go_wp2_with fail
  · have hy0 : y = [] := List.length_eq_zero_iff.1 (by omega)
    have HY0 := Lib.hid hy0
    clear hy0
    refine (same_at A3 (some ⟨bk, o, none⟩) y (all.drop (x.length + 1)) _ _ c3 0 0 (a.size + 1) _ rfl (by rw [hdr.out]; simp) R3.out (by rw [hdr.out, HY0.out]; exact Rd.nil _ _ _) (by omega) hdr.out ⟨by omega, by omega⟩ HDY.out.1).mono ?_
    rintro e W6 ⟨rfl, b6⟩
    replace B := Lib.hid (up2 B.out b6)
    clear b6
    go_wp2
    go_ret
    exact ⟨rfl, B.out⟩
  · refine (same_at A3 (some ⟨bk, o + (x.length + 1) * 4, none⟩) y (all.drop (x.length + 1)) _ _ c3 (c4 - (x.length + 1)) 0 (a.size + 1) _ rfl (by rw [hdr.out]; simp) R3.out (R4.out.drop _) (by omega) hdr.out ⟨by omega, by omega⟩ HDY.out.1).mono ?_
    rintro e W6 ⟨rfl, b6⟩
    replace B := Lib.hid (up2 B.out b6)
    clear b6
    go_wp2
    go_ret
    exact ⟨rfl, B.out⟩
theorem walk (a : ByteArray) (ha : a.size ≤ 140737488355320) (b : ByteArray) (hb : b.size ≤ 140737488355320) (w : World) (hL : Laid w) : Calls Tryd.prog 9 #[.string a, .string b] w fun e w' => e = .returned (.bool true) ∧ Below w.heap.size w w' := by
  cases h : lexR a.data.toList with
  | err p e0 => exact walk_a a ha b hb w hL p e0 h
  | ok x =>
    cases k : lexR b.data.toList with
    | err p e0 => exact walk_b a ha b hb w hL x h p e0 k
    | ok y =>
      by_cases hf : 65535 < a.size + b.size
      · exact walk_far a ha b hb w hL x h y k hf
      · exact walk_near a ha b hb w hL x h y k (by omega)

theorem reads (os : Os) {H : Type} (enc : TypeId × Value → H) : ∃ places, DataW.whole enc Tryd.prog ((startWorld os).forCall (fun _ _ => 0) ⟨#[], #[.string ⟨#[]⟩, .string ⟨#[]⟩], []⟩).memory Tryd.f9.params.toList Rows.lexJoinsSpec.vars false (#[.string ⟨#[]⟩, .string ⟨#[]⟩] : Array Value).toList 8 = some ([.lit (.string []), .lit (.string [])], [], places) :=
  ⟨[], by kernel_rfl⟩
set_option maxRecDepth 100000 in
set_option maxHeartbeats 1000000 in
theorem lifted (os : Os) (started : os.Started) (H : Type) (enc : TypeId × Value → H) (F : Stop.Interp) :
    ReturnsInHanded {} Tryd.checked os 9 .any ((OpenSpec.ofChange Rows.lexJoinsSpec).preRow enc Tryd.prog Tryd.f9 Rows.lexJoinsRow.domain false Rows.lexJoinsRow.laid) (((OpenSpec.ofChange Rows.lexJoinsSpec).at F).post enc Tryd.prog Tryd.f9 false true false false) := by
  obtain ⟨places, hx⟩ := reads os enc
  refine returnsInHanded_of_row (C := Tryd.checked) (s := OpenSpec.ofChange Rows.lexJoinsSpec) lawOwn started (by kernel_rfl) Tryd.func9
    (witness_row_atRef (enc := enc) (C := Tryd.checked) false (startWorld os) #[.string ⟨#[]⟩, .string ⟨#[]⟩] rfl (by kernel_rfl) (by kernel_rfl) (by kernel_rfl)
      (OpenSpec.preRow_of_cond 8 hx (by kernel_rfl) (fun k hk => by cases hk) (by kernel_rfl) (start_met os _))) ?_
  intro W base args ds gs before hval0 hW _ _ hwt hlaid _ _
  have hval : ∀ (j : Nat) t v, Tryd.f9.params[j]? = some t → args[j]? = some v → Value.okWide Tryd.prog W .any base t v := hval0
  have hW' := hW
  obtain ⟨p, q, hA0, hV, rfl, hfz, hnd⟩ := hW
  have hA : DataW.TrodAll enc Tryd.prog W 0 (fun _ => true) true Tryd.f9.params.toList args.toList ds p := hA0
  rw [Tryd.params9] at hA hval
  obtain ⟨rfl, rfl⟩ := trodVars_none hV
  simp only [List.append_nil] at hW'
  obtain ⟨v0, vs0, d0, ds0, p0, q0, hargs, rfl, hp, h0, z0⟩ := trodAll_cons hA
  obtain ⟨v1, vs1, d1, ds1, p1, q1, rfl, rfl, rfl, h1, z1⟩ := trodAll_cons z0
  obtain ⟨rfl, rfl, rfl⟩ := trodAll_nil z1
  obtain rfl : args = #[v0, v1] := by cases args; simp_all
  have hback := fun (W' : World) (hg : Below W.heap.size W W') (sp : Nat → Bool) (hs : ∀ q ∈ p, sp q.block = true) => lawArgsB hg (sp := sp) (by kernel_rfl) hA (fun q hq => hW'.lt q hq) hs
  have hw0 := wt_of (P := Tryd.prog) hwt
  obtain ⟨a0, rfl, rfl, _, _⟩ := Go.ChangeMaps.open_string Tryd.underlying9 (hval 0 9 v0 rfl rfl) h0
  obtain ⟨hs0, hw1⟩ := wt_str hw0
  obtain ⟨a1, rfl, rfl, _, _⟩ := Go.ChangeMaps.open_string Tryd.underlying9 (hval 1 9 v1 rfl rfl) h1
  obtain ⟨hs1, hw2⟩ := wt_str hw1
  refine (walk a0 hs0 a1 hs1 W (laid_of hlaid)).mono fun e W' ⟨he, hg⟩ => ?_
  subst he
  exact ⟨_, rfl, lawPost (pa := p) (pv := []) hW' hg (List.append_nil _).symm (fun _ _ _ => (trodAll_cons_mk (shut_bool Tryd.underlying4 _) trodAll_mk0)) (fun sp hs => hback W' hg sp hs) (fun _ _ => rfl)
    (ok_one (by kernel_rfl) rfl (okWide_bool_mk Tryd.underlying4 _))⟩
theorem said : Rows.LexJoinsSaid :=
  OpenClaim.holds_of_cond 9 Tryd.f9 rfl rfl rfl rfl rfl rfl rfl ⟨rfl, rfl, rfl, rfl, rfl⟩ rfl rfl rfl rfl rfl (by kernel_rfl) Tryd.func9 (by kernel_rfl)
    (of_decide_eq_true (by kernel_rfl)) (by unfold Func.isWrapper; first | (rw [if_pos (by decide +kernel)]; kernel_rfl) | (rw [if_neg (by decide +kernel)]; exact ⟨rfl, rfl⟩))
    (fun os started H enc _ F => by rw [OpenClaim.pre_eq_preRow]; exact lifted os started H enc F)
theorem plain (f : FuncId) (fn : Func) (hf : Tryd.pinned.checked.prog.funcNamed "windrow/windrowlaw03.LexJoins" = some f) (hfn : Tryd.pinned.checked.prog.funcs[f]? = some fn) :
    true = Tryd.pinned.checked.prog.looks [] ∧ ∀ (j : Nat) t, fn.params[j]? = some t → Tryd.pinned.checked.prog.wantsStandIn t = false := by
  obtain rfl : f = 9 := Option.some.inj ((show Tryd.prog.funcNamed "windrow/windrowlaw03.LexJoins" = some 9 by kernel_rfl).symm.trans hf) |>.symm
  obtain rfl : fn = Tryd.f9 := (Option.some.inj (Tryd.func9.symm.trans hfn)).symm
  refine ⟨by kernel_rfl, fun j t ht => ?_⟩
  rw [Tryd.params9] at ht
  have hm : t ∈ [9, 9] := by simpa using Array.mem_of_getElem? ht
  have hall : ([9, 9].all fun u => !Tryd.prog.wantsStandIn u) = true := by kernel_rfl
  exact (show Tryd.prog.wantsStandIn t = false by simpa using List.all_eq_true.1 hall t hm)
/-- The statement. -/
theorem proved : Rows.LexJoinsCardSaid :=
  Claim7.holds_tied_plain_at .later [] _ _ _ _ said (fun _ h => by cases h) (by kernel_rfl) (fun _ h => by cases h) lexJoins_row_tie rfl ⟨rfl, rfl⟩ (by kernel_rfl) rfl plain (by kernel_rfl)
end Go.Proofs.YtphcjpomneejmaaDoor.lexJoins
