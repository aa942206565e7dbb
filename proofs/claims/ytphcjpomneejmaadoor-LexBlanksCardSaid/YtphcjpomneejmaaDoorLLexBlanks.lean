/- For every text, number and kind of blank: a blank more ahead of a token changes nothing but the places from there on. The row lists five package-level variables of the library with what the program text lays in them; the card ties them to it. No other condition. -/
import Derived.Test.YtphcjpomneejmaaDoorLexLz
namespace Go.Proofs.YtphcjpomneejmaaDoor.lexBlanks
open Go.ChangeShapes Go.WideShapes Go.ChangeAt Go.RowKit
set_option linter.unusedVariables false

set_option maxRecDepth 100000 in
set_option maxHeartbeats 2000000 in
theorem walk_bad (s : ByteArray) (hs : s.size ≤ 140737488355320) (at0 : Int) (hat : -9223372036854775808 ≤ at0 ∧ at0 ≤ 9223372036854775807) (tab : Bool) (w : World) (hL : Laid w) (p e0 : Int) (h : lexR s.data.toList = .err p e0) : Calls Tryd.prog 8 #[.string s, .int .i64 at0, .bool tab] w fun e w' => e = .returned (.bool true) ∧ Below w.heap.size w w' := by
  have hx := Lib.hid h
  clear h
  go_enter Tryd.func8, Tryd.ntmps8
  go_wp2_with fail
  refine (shown_any _ hL).mono ?_
  rintro e W1 ⟨rfl, b1⟩
  have B := Lib.hid b1
  clear b1
  go_wp2_with fail
  refine (read_bad s _ p e0 hx.out (hL.below B.out) (by omega)).mono ?_
  rintro e W2 ⟨A2, c2, rfl, b2⟩
  replace B := Lib.hid (up2 B.out b2)
  clear b2
  go_wp2
  go_ret
  exact ⟨rfl, B.out⟩

set_option maxRecDepth 100000 in
set_option maxHeartbeats 2000000 in
theorem walk_nil (s : ByteArray) (hs : s.size ≤ 140737488355320) (at0 : Int) (hat : -9223372036854775808 ≤ at0 ∧ at0 ≤ 9223372036854775807) (tab : Bool) (w : World) (hL : Laid w) (h : lexR s.data.toList = .ok []) : Calls Tryd.prog 8 #[.string s, .int .i64 at0, .bool tab] w fun e w' => e = .returned (.bool true) ∧ Below w.heap.size w w' := by
  obtain ⟨ts, n, h', hts, hn'⟩ : ∃ (ts : List Tk) (n : Nat), lexR s.data.toList = .ok ts ∧ ts.length = n ∧ n = 0 := ⟨[], 0, h, rfl, rfl⟩
  have hx := Lib.hid h'
  have hn := Lib.hid hts
  subst hn'
  clear h h' hts
  go_enter Tryd.func8, Tryd.ntmps8
  go_wp2_with fail
  refine (shown_any _ hL).mono ?_
  rintro e W1 ⟨rfl, b1⟩
  have B := Lib.hid b1
  clear b1
  go_wp2_with fail
  refine (read_ok s _ ts 0 hx.out hn.out (hL.below B.out) (by omega)).mono ?_
  rintro e W2 ⟨A2, c2, rfl, r2, b2, n2⟩
  have R2 := Lib.hid r2
  replace B := Lib.hid (up2 B.out b2)
  clear b2 r2
  go_wp2
  go_ret
  exact ⟨rfl, B.out⟩

set_option maxRecDepth 100000 in
set_option maxHeartbeats 2000000 in
theorem walk_big (s : ByteArray) (hs : s.size ≤ 140737488355320) (at0 : Int) (hat : -9223372036854775808 ≤ at0 ∧ at0 ≤ 9223372036854775807) (tab : Bool) (w : World) (hL : Laid w) (ts : List Tk) (h : lexR s.data.toList = .ok ts) (hpos : 0 < ts.length) (hbig : 65536 ≤ s.size) : Calls Tryd.prog 8 #[.string s, .int .i64 at0, .bool tab] w fun e w' => e = .returned (.bool true) ∧ Below w.heap.size w w' := by
  obtain ⟨n, hts⟩ : ∃ n, ts.length = n := ⟨_, rfl⟩
  have hx := Lib.hid h
  have hn := Lib.hid hts
  have hn1 : 0 < n := by omega
  have hn2 : n ≤ 65536 := by have := (lex_bd h).2; omega
  have hn0 : ((n : Int) == 0) = false := by simp; omega
  have hn00 : (n == 0) = false := by simp; omega
  have hbi : (65536 : Int) ≤ (s.size : Int) := by omega
  have hbd : decide ((65536 : Int) ≤ (s.size : Int)) = true := decide_eq_true hbi
  clear h hts hpos hbig
  go_enter Tryd.func8, Tryd.ntmps8
  go_wp2_with fail
  refine (shown_any _ hL).mono ?_
  rintro e W1 ⟨rfl, b1⟩
  have B := Lib.hid b1
  clear b1
  go_wp2_with fail
  refine (read_ok s _ ts n hx.out hn.out (hL.below B.out) (by omega)).mono ?_
  rintro e W2 ⟨A2, c2, rfl, r2, b2, n2⟩
  have R2 := Lib.hid r2
  replace B := Lib.hid (up2 B.out b2)
  clear b2 r2
  go_wp2
  go_ret
  exact ⟨rfl, B.out⟩

set_option maxRecDepth 100000 in
set_option maxHeartbeats 2000000 in
theorem walk_false (s : ByteArray) (hs : s.size ≤ 140737488355320) (at0 : Int) (hat : -9223372036854775808 ≤ at0 ∧ at0 ≤ 9223372036854775807) (w : World) (hL : Laid w) (ts : List Tk) (h : lexR s.data.toList = .ok ts) (hpos : 0 < ts.length) (hsmall : s.size < 65536) : Calls Tryd.prog 8 #[.string s, .int .i64 at0, .bool false] w fun e w' => e = .returned (.bool true) ∧ Below w.heap.size w w' := by
  have hx := Lib.hid h
  have hbd := Lib.hid (lex_bd h)
  obtain ⟨hsz, hl⟩ := lexR_ok h
  rw [len_s] at hsz
  have hpl := (lex_places _ _ _ (Nat.le_refl _) _ hl).2
  obtain ⟨n, hts⟩ : ∃ n, ts.length = n := ⟨_, rfl⟩
  have hn := Lib.hid hts
  have hn1 : 0 < n := by omega
  have hn2 : n ≤ 65536 := by have := (lex_bd h).2; omega
  have hn0 : ((n : Int) == 0) = false := by simp; omega
  have hn00 : (n == 0) = false := by simp; omega
  obtain ⟨K, hK, hKe⟩ := pick_at at0 hn1
  have hsp := split_at (show K < ts.length by omega)
  rw [hsp] at hl
  obtain ⟨m, hm, hml, hleft, hcut⟩ := cut_tok hl
  clear hleft
  rw [len_s] at hml
  have hcl : ((s.extract 0 m ++ (⟨#[32]⟩ : ByteArray)) ++ s.extract m s.size).data.toList = s.data.toList.take m ++ 32 :: s.data.toList.drop m := by
    rw [app_list, app_list, ext_list, ext_list, List.take_of_length_le (show s.data.toList.length ≤ s.size by rw [len_s]; omega)]; simp
  have hmap : ts.map (sh m 1) = ts.take K ++ (nth ts K :: ts.drop (K + 1)).map (mv 1) := by
    have h1 := sh_split (l := ts) (A := ts.take K) (t := nth ts K) (B := ts.drop (K + 1)) hsp hpl
    rw [hm] at h1
    exact h1
  have HC := Lib.hid (show lexR ((s.extract 0 m ++ (⟨#[32]⟩ : ByteArray)) ++ s.extract m s.size).data.toList = .ok (ts.map (sh m 1)) by
    rw [hcl, lexR_small (by rw [List.length_append, List.length_cons, List.length_take, List.length_drop, len_s]; omega), hcut 32 (by decide), hmap])
  have zCC := Lib.hid (show ((s.extract 0 m ++ (⟨#[32]⟩ : ByteArray)) ++ s.extract m s.size).size ≤ 140737488355328 by rw [← len_s, hcl, List.length_append, List.length_cons, List.length_take, List.length_drop, len_s]; omega)
  have HM := Lib.hid hm
  have hml2 : m ≤ s.size := by omega
  have hmi : (m : Int) ≤ (s.size : Int) := by omega
  have z1 : (s.extract 0 m).size ≤ 65535 := by rw [← len_s, ext_list, List.drop_zero, List.length_take, len_s]; omega
  have z2 : (s.extract m s.size).size ≤ 65535 := by rw [← len_s, ext_list, List.length_drop, List.length_take, len_s]; omega
  have z3 : (s.extract 0 m ++ (⟨#[32]⟩ : ByteArray)).size ≤ 65536 := by rw [← len_s, app_list, List.length_append, len_s]; simp; omega
  have HQL := Lib.hid (show (ts.map (sh m 1)).length = n by simp [hts])
  have hw1 : 0 ≤ IntKind.u64.wrap at0 := wrap_u64_nonneg _
  have hKE := Lib.hid hKe
  have hbd2 : decide ((65536 : Int) ≤ (s.size : Int)) = false := decide_eq_false (by omega)
  clear h hl hpl hts hpos hsp hcut hcl hmap hm hKe hsmall hsz
  go_enter Tryd.func8, Tryd.ntmps8
  go_wp2_with fail
  refine (shown_any _ hL).mono ?_
  rintro e W1 ⟨rfl, b1⟩
  have B := Lib.hid b1
  clear b1
  go_wp2_with fail
  refine (read_ok s _ ts n hx.out hn.out (hL.below B.out) (by omega)).mono ?_
  rintro e W2 ⟨A2, c2, rfl, r2, b2, n2⟩
  have R2 := Lib.hid r2
  replace B := Lib.hid (up2 B.out b2)
  clear b2 r2
  obtain ⟨b, o, rfl, hb, hc⟩ := R2.out.at_ K (by rw [hn.out]; exact hK)
  have d1 := (show W2.cell? ⟨b, o + K * 4 + 1, none⟩ = some (.int .i64 (nth ts K).a) from (hc K (by rw [hn.out]; exact hK)).2.1)
  rw [HM.out] at d1
  have q1 := idxT b o n c2 (K : Int) (by omega) (by omega)
  rw [Int.toNat_natCast] at q1
  have hKe := hKE.out
  clear hc
  have Z1 := Lib.hid z1
  have Z2 := Lib.hid z2
  have Z3 := Lib.hid z3
  clear z1 z2 z3
  go_wp2_with fail
  have z1 := Z1.out
  have z2 := Z2.out
  have z3 := Z3.out
  clear d1 q1 hKe
  have HLW := Lib.hid (hL.below B.out)
  go_region_with ((go_at_call 17; refine (read_ok _ _ (ts.map (sh m 1)) n HC.out HQL.out (HLW.out.below (draw_up _ _)) zCC.out).mono ?_; rintro e W3 ⟨A3, c3, rfl, r3, b3, n3⟩))
  have hu := up2 (draw_up W2 _) b3
  have R3 := Lib.hid r3
  replace R2 := Lib.hid (R2.out.below hu)
  replace B := Lib.hid (up2 B.out hu)
  clear b3 r3 hu z1 z2 z3
  go_wp2_with fail
  refine (same_at _ _ ts (ts.map (sh m 1)) n n c2 c3 m 1 _ hn.out HQL.out R2.out R3.out (by rw [hn.out]; omega) rfl ⟨by omega, by omega⟩ hbd.out.1).mono ?_
  rintro e W4 ⟨rfl, b4⟩
  replace B := Lib.hid (up2 B.out b4)
  clear b4
  go_wp2
  go_ret
  exact ⟨rfl, B.out⟩

set_option maxRecDepth 100000 in
set_option maxHeartbeats 2000000 in
theorem walk_true (s : ByteArray) (hs : s.size ≤ 140737488355320) (at0 : Int) (hat : -9223372036854775808 ≤ at0 ∧ at0 ≤ 9223372036854775807) (w : World) (hL : Laid w) (ts : List Tk) (h : lexR s.data.toList = .ok ts) (hpos : 0 < ts.length) (hsmall : s.size < 65536) : Calls Tryd.prog 8 #[.string s, .int .i64 at0, .bool true] w fun e w' => e = .returned (.bool true) ∧ Below w.heap.size w w' := by
  have hx := Lib.hid h
  have hbd := Lib.hid (lex_bd h)
  obtain ⟨hsz, hl⟩ := lexR_ok h
  rw [len_s] at hsz
  have hpl := (lex_places _ _ _ (Nat.le_refl _) _ hl).2
  obtain ⟨n, hts⟩ : ∃ n, ts.length = n := ⟨_, rfl⟩
  have hn := Lib.hid hts
  have hn1 : 0 < n := by omega
  have hn2 : n ≤ 65536 := by have := (lex_bd h).2; omega
  have hn0 : ((n : Int) == 0) = false := by simp; omega
  have hn00 : (n == 0) = false := by simp; omega
  obtain ⟨K, hK, hKe⟩ := pick_at at0 hn1
  have hsp := split_at (show K < ts.length by omega)
  rw [hsp] at hl
  obtain ⟨m, hm, hml, hleft, hcut⟩ := cut_tok hl
  clear hleft
  rw [len_s] at hml
  have hcl : ((s.extract 0 m ++ (⟨#[9]⟩ : ByteArray)) ++ s.extract m s.size).data.toList = s.data.toList.take m ++ 9 :: s.data.toList.drop m := by
    rw [app_list, app_list, ext_list, ext_list, List.take_of_length_le (show s.data.toList.length ≤ s.size by rw [len_s]; omega)]; simp
  have hmap : ts.map (sh m 1) = ts.take K ++ (nth ts K :: ts.drop (K + 1)).map (mv 1) := by
    have h1 := sh_split (l := ts) (A := ts.take K) (t := nth ts K) (B := ts.drop (K + 1)) hsp hpl
    rw [hm] at h1
    exact h1
  have HC := Lib.hid (show lexR ((s.extract 0 m ++ (⟨#[9]⟩ : ByteArray)) ++ s.extract m s.size).data.toList = .ok (ts.map (sh m 1)) by
    rw [hcl, lexR_small (by rw [List.length_append, List.length_cons, List.length_take, List.length_drop, len_s]; omega), hcut 9 (by decide), hmap])
  have zCC := Lib.hid (show ((s.extract 0 m ++ (⟨#[9]⟩ : ByteArray)) ++ s.extract m s.size).size ≤ 140737488355328 by rw [← len_s, hcl, List.length_append, List.length_cons, List.length_take, List.length_drop, len_s]; omega)
  have HM := Lib.hid hm
  have hml2 : m ≤ s.size := by omega
  have hmi : (m : Int) ≤ (s.size : Int) := by omega
  have z1 : (s.extract 0 m).size ≤ 65535 := by rw [← len_s, ext_list, List.drop_zero, List.length_take, len_s]; omega
  have z2 : (s.extract m s.size).size ≤ 65535 := by rw [← len_s, ext_list, List.length_drop, List.length_take, len_s]; omega
  have z3 : (s.extract 0 m ++ (⟨#[9]⟩ : ByteArray)).size ≤ 65536 := by rw [← len_s, app_list, List.length_append, len_s]; simp; omega
  have HQL := Lib.hid (show (ts.map (sh m 1)).length = n by simp [hts])
  have hw1 : 0 ≤ IntKind.u64.wrap at0 := wrap_u64_nonneg _
  have hKE := Lib.hid hKe
  have hbd2 : decide ((65536 : Int) ≤ (s.size : Int)) = false := decide_eq_false (by omega)
  clear h hl hpl hts hpos hsp hcut hcl hmap hm hKe hsmall hsz
  go_enter Tryd.func8, Tryd.ntmps8
  go_wp2_with fail
  refine (shown_any _ hL).mono ?_
  rintro e W1 ⟨rfl, b1⟩
  have B := Lib.hid b1
  clear b1
  go_wp2_with fail
  refine (read_ok s _ ts n hx.out hn.out (hL.below B.out) (by omega)).mono ?_
  rintro e W2 ⟨A2, c2, rfl, r2, b2, n2⟩
  have R2 := Lib.hid r2
  replace B := Lib.hid (up2 B.out b2)
  clear b2 r2
  obtain ⟨b, o, rfl, hb, hc⟩ := R2.out.at_ K (by rw [hn.out]; exact hK)
  have d1 := (show W2.cell? ⟨b, o + K * 4 + 1, none⟩ = some (.int .i64 (nth ts K).a) from (hc K (by rw [hn.out]; exact hK)).2.1)
  rw [HM.out] at d1
  have q1 := idxT b o n c2 (K : Int) (by omega) (by omega)
  rw [Int.toNat_natCast] at q1
  have hKe := hKE.out
  clear hc
  have Z1 := Lib.hid z1
  have Z2 := Lib.hid z2
  have Z3 := Lib.hid z3
  clear z1 z2 z3
  go_wp2_with fail
  have z1 := Z1.out
  have z2 := Z2.out
  have z3 := Z3.out
  clear d1 q1 hKe
  have HLW := Lib.hid (hL.below B.out)
  go_region_with ((go_at_call 17; refine (read_ok _ _ (ts.map (sh m 1)) n HC.out HQL.out (HLW.out.below (draw_up _ _)) zCC.out).mono ?_; rintro e W3 ⟨A3, c3, rfl, r3, b3, n3⟩))
  have hu := up2 (draw_up W2 _) b3
  have R3 := Lib.hid r3
  replace R2 := Lib.hid (R2.out.below hu)
  replace B := Lib.hid (up2 B.out hu)
  clear b3 r3 hu z1 z2 z3
  go_wp2_with fail
  refine (same_at _ _ ts (ts.map (sh m 1)) n n c2 c3 m 1 _ hn.out HQL.out R2.out R3.out (by rw [hn.out]; omega) rfl ⟨by omega, by omega⟩ hbd.out.1).mono ?_
  rintro e W4 ⟨rfl, b4⟩
  replace B := Lib.hid (up2 B.out b4)
  clear b4
  go_wp2
  go_ret
  exact ⟨rfl, B.out⟩

theorem walk (s : ByteArray) (hs : s.size ≤ 140737488355320) (at0 : Int) (hat : -9223372036854775808 ≤ at0 ∧ at0 ≤ 9223372036854775807) (tab : Bool) (w : World) (hL : Laid w) : Calls Tryd.prog 8 #[.string s, .int .i64 at0, .bool tab] w fun e w' => e = .returned (.bool true) ∧ Below w.heap.size w w' := by
  cases h : lexR s.data.toList with
  | err p e0 => exact walk_bad s hs at0 hat tab w hL p e0 h
  | ok ts =>
    by_cases hp : 0 < ts.length
    · by_cases hb : 65536 ≤ s.size
      · exact walk_big s hs at0 hat tab w hL ts h hp hb
      · cases tab
        · exact walk_false s hs at0 hat w hL ts h hp (by omega)
        · exact walk_true s hs at0 hat w hL ts h hp (by omega)
    · have h0 : ts = [] := List.length_eq_zero_iff.1 (by omega)
      subst h0
      exact walk_nil s hs at0 hat tab w hL h

theorem reads (os : Os) {H : Type} (enc : TypeId × Value → H) : ∃ places, DataW.whole enc Tryd.prog ((startWorld os).forCall (fun _ _ => 0) ⟨#[], #[.string ⟨#[]⟩, .int .i64 0, .bool false], []⟩).memory Tryd.f8.params.toList Rows.lexBlanksSpec.vars false (#[.string ⟨#[]⟩, .int .i64 0, .bool false] : Array Value).toList 8 = some ([.lit (.string []), .lit (.int .i64 0), .lit (.bool false)], [], places) :=
  ⟨[], by kernel_rfl⟩
set_option maxRecDepth 100000 in
set_option maxHeartbeats 1000000 in
theorem lifted (os : Os) (started : os.Started) (H : Type) (enc : TypeId × Value → H) (F : Stop.Interp) :
    ReturnsInHanded {} Tryd.checked os 8 .any ((OpenSpec.ofChange Rows.lexBlanksSpec).preRow enc Tryd.prog Tryd.f8 Rows.lexBlanksRow.domain false Rows.lexBlanksRow.laid) (((OpenSpec.ofChange Rows.lexBlanksSpec).at F).post enc Tryd.prog Tryd.f8 false true false false) := by
  obtain ⟨places, hx⟩ := reads os enc
  refine returnsInHanded_of_row (C := Tryd.checked) (s := OpenSpec.ofChange Rows.lexBlanksSpec) lawOwn started (by kernel_rfl) Tryd.func8
    (witness_row_atRef (enc := enc) (C := Tryd.checked) false (startWorld os) #[.string ⟨#[]⟩, .int .i64 0, .bool false] rfl (by kernel_rfl) (by kernel_rfl) (by kernel_rfl)
      (OpenSpec.preRow_of_cond 8 hx (by kernel_rfl) (fun k hk => by cases hk) (by kernel_rfl) (start_met os _))) ?_
  intro W base args ds gs before hval0 hW _ _ hwt hlaid _ _
  have hval : ∀ (j : Nat) t v, Tryd.f8.params[j]? = some t → args[j]? = some v → Value.okWide Tryd.prog W .any base t v := hval0
  have hW' := hW
  obtain ⟨p, q, hA0, hV, rfl, hfz, hnd⟩ := hW
  have hA : DataW.TrodAll enc Tryd.prog W 0 (fun _ => true) true Tryd.f8.params.toList args.toList ds p := hA0
  rw [Tryd.params8] at hA hval
  obtain ⟨rfl, rfl⟩ := trodVars_none hV
  simp only [List.append_nil] at hW'
  obtain ⟨v0, vs0, d0, ds0, p0, q0, hargs, rfl, hp, h0, z0⟩ := trodAll_cons hA
  obtain ⟨v1, vs1, d1, ds1, p1, q1, rfl, rfl, rfl, h1, z1⟩ := trodAll_cons z0
  obtain ⟨v2, vs2, d2, ds2, p2, q2, rfl, rfl, rfl, h2, z2⟩ := trodAll_cons z1
  obtain ⟨rfl, rfl, rfl⟩ := trodAll_nil z2
  obtain rfl : args = #[v0, v1, v2] := by cases args; simp_all
  have hback := fun (W' : World) (hg : Below W.heap.size W W') (sp : Nat → Bool) (hs : ∀ q ∈ p, sp q.block = true) => lawArgsB hg (sp := sp) (by kernel_rfl) hA (fun q hq => hW'.lt q hq) hs
  have hw0 := wt_of (P := Tryd.prog) hwt
  obtain ⟨a0, rfl, rfl, _, _⟩ := Go.ChangeMaps.open_string Tryd.underlying9 (hval 0 9 v0 rfl rfl) h0
  obtain ⟨hs0, hw1⟩ := wt_str hw0
  obtain ⟨a1, rfl, rfl, _, w1⟩ := open_int Tryd.underlying3 (hval 1 3 v1 rfl rfl) h1
  have hw2 := wt_skip hw1
  obtain ⟨a2, rfl, rfl, _⟩ := open_bool Tryd.underlying4 (hval 2 4 v2 rfl rfl) h2
  have hw3 := wt_skip hw2
  refine (walk a0 hs0 a1 (rng_i64 w1) a2 W (laid_of hlaid)).mono fun e W' ⟨he, hg⟩ => ?_
  subst he
  exact ⟨_, rfl, lawPost (pa := p) (pv := []) hW' hg (List.append_nil _).symm (fun _ _ _ => (trodAll_cons_mk (shut_bool Tryd.underlying4 _) trodAll_mk0)) (fun sp hs => hback W' hg sp hs) (fun _ _ => rfl)
    (ok_one (by kernel_rfl) rfl (okWide_bool_mk Tryd.underlying4 _))⟩
theorem said : Rows.LexBlanksSaid :=
  OpenClaim.holds_of_cond 8 Tryd.f8 rfl rfl rfl rfl rfl rfl rfl ⟨rfl, rfl, rfl, rfl, rfl⟩ rfl rfl rfl rfl rfl (by kernel_rfl) Tryd.func8 (by kernel_rfl)
    (of_decide_eq_true (by kernel_rfl)) (by unfold Func.isWrapper; first | (rw [if_pos (by decide +kernel)]; kernel_rfl) | (rw [if_neg (by decide +kernel)]; exact ⟨rfl, rfl⟩))
    (fun os started H enc _ F => by rw [OpenClaim.pre_eq_preRow]; exact lifted os started H enc F)
theorem plain (f : FuncId) (fn : Func) (hf : Tryd.pinned.checked.prog.funcNamed "windrow/windrowlaw03.LexBlanks" = some f) (hfn : Tryd.pinned.checked.prog.funcs[f]? = some fn) :
    true = Tryd.pinned.checked.prog.looks [] ∧ ∀ (j : Nat) t, fn.params[j]? = some t → Tryd.pinned.checked.prog.wantsStandIn t = false := by
  obtain rfl : f = 8 := Option.some.inj ((show Tryd.prog.funcNamed "windrow/windrowlaw03.LexBlanks" = some 8 by kernel_rfl).symm.trans hf) |>.symm
  obtain rfl : fn = Tryd.f8 := (Option.some.inj (Tryd.func8.symm.trans hfn)).symm
  refine ⟨by kernel_rfl, fun j t ht => ?_⟩
  rw [Tryd.params8] at ht
  have hm : t ∈ [9, 3, 4] := by simpa using Array.mem_of_getElem? ht
  have hall : ([9, 3, 4].all fun u => !Tryd.prog.wantsStandIn u) = true := by kernel_rfl
  exact (show Tryd.prog.wantsStandIn t = false by simpa using List.all_eq_true.1 hall t hm)
/-- The statement. -/
theorem proved : Rows.LexBlanksCardSaid :=
  Claim7.holds_tied_plain_at .later [] _ _ _ _ said (fun _ h => by cases h) (by kernel_rfl) (fun _ h => by cases h) lexBlanks_row_tie rfl ⟨rfl, rfl⟩ (by kernel_rfl) rfl plain (by kernel_rfl)
end Go.Proofs.YtphcjpomneejmaaDoor.lexBlanks
