
/- The law ArrayBack. -/
import Derived.Test.YtedfjmidcljmoaaArrT
namespace Go.Proofs.Ytedfjmidcljmoaa.arrayBack
open Go.ChangeShapes Go.WideShapes Go.ChangeAt Go.RowKit Go.Joins
set_option linter.unusedVariables false
set_option linter.unusedSimpArgs false
set_option maxRecDepth 100000 in
set_option maxHeartbeats 1000000 in
theorem walk11 (A0 : Option Addr) (a0 : List Int) (k0 : Nat) (A1 : Option Addr) (a1 : List Int) (k1 : Nat) (a2 : Int) (w : World) (r0 : RdA w A0 a0) (m0 : a0.length ≤ 9223372036854775807) (r1 : RdA w A1 a1) (m1 : a1.length ≤ 9223372036854775807) (w2 : (Lit.int .i64 a2).wf = true) (ho : okA a0) (hp : (0 ≤ a2 ∧ a2 < prodA a0)) (hi : inA a0 a1) :
    Calls Try.prog 6 #[.slice A0 a0.length k0, .slice A1 a1.length k1, .int .i64 a2] w (BoolB w true) := by
  have Hhi := Lib.hid hi
  clear hi
  have Hhp := Lib.hid hp
  clear hp
  have Hho := Lib.hid ho
  clear ho
  have Hr1 := Lib.hid r1
  clear r1
  have Hr0 := Lib.hid r0
  clear r0
  go_enter Try.func6, Try.ntmps6
  go_wp2_with fail
  refine (shown_any _).mono ?_
  rintro e W1 ⟨rfl, b1⟩
  replace Hr0 := Lib.hid (Hr0.out.below b1)
  replace Hr1 := Lib.hid (Hr1.out.below b1)
  have B := Lib.hid b1
  clear b1
  go_wp2_with fail
  refine (index_r _ _ _ a2 a0 _ Hr0.out rfl m0 (ix_yes Hho.out Hhp.out)).mono ?_
  rintro e W2 ⟨A2, n2, c2, rfl, l2, f2, o2, R2, b2⟩
  replace Hr0 := Lib.hid (Hr0.out.below b2)
  replace Hr1 := Lib.hid (Hr1.out.below b2)
  replace B := Lib.hid (B.out.trans (b2.mono B.out.size))
  clear b2
  obtain rfl : a0.length = n2 := by rw [← l2, ixA_len]
  have HR2 := Lib.hid R2
  have L2 := Lib.hid l2
  clear o2 R2 l2
  go_wp2_with fail
  refine (place_r _ _ _ _ _ _ a0 (ixA a0 a2) _ Hr0.out HR2.out rfl L2.out m0 m0 (pl_of_ix Hho.out Hhp.out)).mono ?_
  rintro e W3 ⟨rfl, b3⟩
  replace Hr0 := Lib.hid (Hr0.out.below b3)
  replace Hr1 := Lib.hid (Hr1.out.below b3)
  replace HR2 := Lib.hid (HR2.out.below b3)
  replace B := Lib.hid (B.out.trans (b3.mono B.out.size))
  clear b3
  go_wp2_with fail
  refine (place_r _ _ _ _ _ _ a0 a1 _ Hr0.out Hr1.out rfl rfl m0 m1 (pl_yes Hho.out Hhi.out)).mono ?_
  rintro e W4 ⟨rfl, b4⟩
  replace Hr0 := Lib.hid (Hr0.out.below b4)
  replace Hr1 := Lib.hid (Hr1.out.below b4)
  replace HR2 := Lib.hid (HR2.out.below b4)
  replace B := Lib.hid (B.out.trans (b4.mono B.out.size))
  clear b4
  obtain ⟨q, hq⟩ : ∃ q, q = plA a0 a1 := ⟨_, rfl⟩
  rw [← hq]
  have hqb := plA_rng Hhi.out
  rw [← hq] at hqb
  have hq0 := hqb.1
  have hq1 := hqb.2
  have HQ := Lib.hid hq
  clear hq hqb
  go_wp2_with fail
  refine (index_r _ _ _ q a0 _ Hr0.out rfl m0 (show ixR a0 q = (a1, 0) by rw [HQ.out]; exact ix_of_pl Hho.out Hhi.out)).mono ?_
  rintro e W5 ⟨A5, n5, c5, rfl, l5, f5, o5, R5, b5⟩
  replace Hr0 := Lib.hid (Hr0.out.below b5)
  replace Hr1 := Lib.hid (Hr1.out.below b5)
  replace HR2 := Lib.hid (HR2.out.below b5)
  replace B := Lib.hid (B.out.trans (b5.mono B.out.size))
  clear b5
  have HR5 := Lib.hid R5
  have L5 := Lib.hid l5
  clear o5 R5 l5
  go_wp2_with fail
  refine (size_r _ _ _ _ Hr0.out m0 (sz_yes Hho.out)).mono ?_
  rintro e W6 ⟨rfl, b6⟩
  replace Hr0 := Lib.hid (Hr0.out.below b6)
  replace Hr1 := Lib.hid (Hr1.out.below b6)
  replace HR2 := Lib.hid (HR2.out.below b6)
  replace HR5 := Lib.hid (HR5.out.below b6)
  replace B := Lib.hid (B.out.trans (b6.mono B.out.size))
  clear b6
  go_wp2_with fail
  refine (ints_self _ _ _ _ _ _ _ _ HR5.out Hr1.out L5.out rfl (by omega)).mono ?_
  rintro e W7 ⟨rfl, b7⟩
  replace Hr0 := Lib.hid (Hr0.out.below b7)
  replace Hr1 := Lib.hid (Hr1.out.below b7)
  replace HR2 := Lib.hid (HR2.out.below b7)
  replace HR5 := Lib.hid (HR5.out.below b7)
  replace B := Lib.hid (B.out.trans (b7.mono B.out.size))
  clear b7
  go_wp2
  go_ret
  exact ⟨rfl, B.out⟩

set_option maxRecDepth 100000 in
set_option maxHeartbeats 1000000 in
theorem walk10 (A0 : Option Addr) (a0 : List Int) (k0 : Nat) (A1 : Option Addr) (a1 : List Int) (k1 : Nat) (a2 : Int) (w : World) (r0 : RdA w A0 a0) (m0 : a0.length ≤ 9223372036854775807) (r1 : RdA w A1 a1) (m1 : a1.length ≤ 9223372036854775807) (w2 : (Lit.int .i64 a2).wf = true) (ho : okA a0) (hp : (0 ≤ a2 ∧ a2 < prodA a0)) (hi : ¬ inA a0 a1) :
    Calls Try.prog 6 #[.slice A0 a0.length k0, .slice A1 a1.length k1, .int .i64 a2] w (BoolB w true) := by
  have Hhi := Lib.hid hi
  clear hi
  have Hhp := Lib.hid hp
  clear hp
  have Hho := Lib.hid ho
  clear ho
  have Hr1 := Lib.hid r1
  clear r1
  have Hr0 := Lib.hid r0
  clear r0
  go_enter Try.func6, Try.ntmps6
  go_wp2_with fail
  refine (shown_any _).mono ?_
  rintro e W1 ⟨rfl, b1⟩
  replace Hr0 := Lib.hid (Hr0.out.below b1)
  replace Hr1 := Lib.hid (Hr1.out.below b1)
  have B := Lib.hid b1
  clear b1
  go_wp2_with fail
  refine (index_r _ _ _ a2 a0 _ Hr0.out rfl m0 (ix_yes Hho.out Hhp.out)).mono ?_
  rintro e W2 ⟨A2, n2, c2, rfl, l2, f2, o2, R2, b2⟩
  replace Hr0 := Lib.hid (Hr0.out.below b2)
  replace Hr1 := Lib.hid (Hr1.out.below b2)
  replace B := Lib.hid (B.out.trans (b2.mono B.out.size))
  clear b2
  obtain rfl : a0.length = n2 := by rw [← l2, ixA_len]
  have HR2 := Lib.hid R2
  have L2 := Lib.hid l2
  clear o2 R2 l2
  go_wp2_with fail
  refine (place_r _ _ _ _ _ _ a0 (ixA a0 a2) _ Hr0.out HR2.out rfl L2.out m0 m0 (pl_of_ix Hho.out Hhp.out)).mono ?_
  rintro e W3 ⟨rfl, b3⟩
  replace Hr0 := Lib.hid (Hr0.out.below b3)
  replace Hr1 := Lib.hid (Hr1.out.below b3)
  replace HR2 := Lib.hid (HR2.out.below b3)
  replace B := Lib.hid (B.out.trans (b3.mono B.out.size))
  clear b3
  go_wp2_with fail
  refine (place_r _ _ _ _ _ _ a0 a1 _ Hr0.out Hr1.out rfl rfl m0 m1 (pl_none Hho.out Hhi.out)).mono ?_
  rintro e W4 ⟨rfl, b4⟩
  replace Hr0 := Lib.hid (Hr0.out.below b4)
  replace Hr1 := Lib.hid (Hr1.out.below b4)
  replace HR2 := Lib.hid (HR2.out.below b4)
  replace B := Lib.hid (B.out.trans (b4.mono B.out.size))
  clear b4
  go_wp2
  go_ret
  exact ⟨rfl, B.out⟩

set_option maxRecDepth 100000 in
set_option maxHeartbeats 1000000 in
theorem walk01 (A0 : Option Addr) (a0 : List Int) (k0 : Nat) (A1 : Option Addr) (a1 : List Int) (k1 : Nat) (a2 : Int) (w : World) (r0 : RdA w A0 a0) (m0 : a0.length ≤ 9223372036854775807) (r1 : RdA w A1 a1) (m1 : a1.length ≤ 9223372036854775807) (w2 : (Lit.int .i64 a2).wf = true) (ho : okA a0) (hp : ¬ (0 ≤ a2 ∧ a2 < prodA a0)) (hi : inA a0 a1) :
    Calls Try.prog 6 #[.slice A0 a0.length k0, .slice A1 a1.length k1, .int .i64 a2] w (BoolB w true) := by
  have Hhi := Lib.hid hi
  clear hi
  have Hhp := Lib.hid hp
  clear hp
  have Hho := Lib.hid ho
  clear ho
  have Hr1 := Lib.hid r1
  clear r1
  have Hr0 := Lib.hid r0
  clear r0
  go_enter Try.func6, Try.ntmps6
  go_wp2_with fail
  refine (shown_any _).mono ?_
  rintro e W1 ⟨rfl, b1⟩
  replace Hr0 := Lib.hid (Hr0.out.below b1)
  replace Hr1 := Lib.hid (Hr1.out.below b1)
  have B := Lib.hid b1
  clear b1
  go_wp2_with fail
  refine (index_r _ _ _ a2 a0 _ Hr0.out rfl m0 (ix_none Hho.out Hhp.out)).mono ?_
  rintro e W2 ⟨A2, n2, c2, rfl, l2, f2, o2, R2, b2⟩
  replace Hr0 := Lib.hid (Hr0.out.below b2)
  replace Hr1 := Lib.hid (Hr1.out.below b2)
  replace B := Lib.hid (B.out.trans (b2.mono B.out.size))
  clear b2
  clear o2 R2 l2
  go_wp2_with fail
  refine (place_r _ _ _ _ _ _ a0 a1 _ Hr0.out Hr1.out rfl rfl m0 m1 (pl_yes Hho.out Hhi.out)).mono ?_
  rintro e W3 ⟨rfl, b3⟩
  replace Hr0 := Lib.hid (Hr0.out.below b3)
  replace Hr1 := Lib.hid (Hr1.out.below b3)
  replace B := Lib.hid (B.out.trans (b3.mono B.out.size))
  clear b3
  obtain ⟨q, hq⟩ : ∃ q, q = plA a0 a1 := ⟨_, rfl⟩
  rw [← hq]
  have hqb := plA_rng Hhi.out
  rw [← hq] at hqb
  have hq0 := hqb.1
  have hq1 := hqb.2
  have HQ := Lib.hid hq
  clear hq hqb
  go_wp2_with fail
  refine (index_r _ _ _ q a0 _ Hr0.out rfl m0 (show ixR a0 q = (a1, 0) by rw [HQ.out]; exact ix_of_pl Hho.out Hhi.out)).mono ?_
  rintro e W4 ⟨A4, n4, c4, rfl, l4, f4, o4, R4, b4⟩
  replace Hr0 := Lib.hid (Hr0.out.below b4)
  replace Hr1 := Lib.hid (Hr1.out.below b4)
  replace B := Lib.hid (B.out.trans (b4.mono B.out.size))
  clear b4
  have HR4 := Lib.hid R4
  have L4 := Lib.hid l4
  clear o4 R4 l4
  go_wp2_with fail
  refine (size_r _ _ _ _ Hr0.out m0 (sz_yes Hho.out)).mono ?_
  rintro e W5 ⟨rfl, b5⟩
  replace Hr0 := Lib.hid (Hr0.out.below b5)
  replace Hr1 := Lib.hid (Hr1.out.below b5)
  replace HR4 := Lib.hid (HR4.out.below b5)
  replace B := Lib.hid (B.out.trans (b5.mono B.out.size))
  clear b5
  go_wp2_with fail
  refine (ints_self _ _ _ _ _ _ _ _ HR4.out Hr1.out L4.out rfl (by omega)).mono ?_
  rintro e W6 ⟨rfl, b6⟩
  replace Hr0 := Lib.hid (Hr0.out.below b6)
  replace Hr1 := Lib.hid (Hr1.out.below b6)
  replace HR4 := Lib.hid (HR4.out.below b6)
  replace B := Lib.hid (B.out.trans (b6.mono B.out.size))
  clear b6
  go_wp2
  go_ret
  exact ⟨rfl, B.out⟩

set_option maxRecDepth 100000 in
set_option maxHeartbeats 1000000 in
theorem walk00 (A0 : Option Addr) (a0 : List Int) (k0 : Nat) (A1 : Option Addr) (a1 : List Int) (k1 : Nat) (a2 : Int) (w : World) (r0 : RdA w A0 a0) (m0 : a0.length ≤ 9223372036854775807) (r1 : RdA w A1 a1) (m1 : a1.length ≤ 9223372036854775807) (w2 : (Lit.int .i64 a2).wf = true) (ho : okA a0) (hp : ¬ (0 ≤ a2 ∧ a2 < prodA a0)) (hi : ¬ inA a0 a1) :
    Calls Try.prog 6 #[.slice A0 a0.length k0, .slice A1 a1.length k1, .int .i64 a2] w (BoolB w true) := by
  have Hhi := Lib.hid hi
  clear hi
  have Hhp := Lib.hid hp
  clear hp
  have Hho := Lib.hid ho
  clear ho
  have Hr1 := Lib.hid r1
  clear r1
  have Hr0 := Lib.hid r0
  clear r0
  go_enter Try.func6, Try.ntmps6
  go_wp2_with fail
  refine (shown_any _).mono ?_
  rintro e W1 ⟨rfl, b1⟩
  replace Hr0 := Lib.hid (Hr0.out.below b1)
  replace Hr1 := Lib.hid (Hr1.out.below b1)
  have B := Lib.hid b1
  clear b1
  go_wp2_with fail
  refine (index_r _ _ _ a2 a0 _ Hr0.out rfl m0 (ix_none Hho.out Hhp.out)).mono ?_
  rintro e W2 ⟨A2, n2, c2, rfl, l2, f2, o2, R2, b2⟩
  replace Hr0 := Lib.hid (Hr0.out.below b2)
  replace Hr1 := Lib.hid (Hr1.out.below b2)
  replace B := Lib.hid (B.out.trans (b2.mono B.out.size))
  clear b2
  clear o2 R2 l2
  go_wp2_with fail
  refine (place_r _ _ _ _ _ _ a0 a1 _ Hr0.out Hr1.out rfl rfl m0 m1 (pl_none Hho.out Hhi.out)).mono ?_
  rintro e W3 ⟨rfl, b3⟩
  replace Hr0 := Lib.hid (Hr0.out.below b3)
  replace Hr1 := Lib.hid (Hr1.out.below b3)
  replace B := Lib.hid (B.out.trans (b3.mono B.out.size))
  clear b3
  go_wp2
  go_ret
  exact ⟨rfl, B.out⟩

set_option maxRecDepth 100000 in
set_option maxHeartbeats 1000000 in
theorem walkno (A0 : Option Addr) (a0 : List Int) (k0 : Nat) (A1 : Option Addr) (a1 : List Int) (k1 : Nat) (a2 : Int) (w : World) (r0 : RdA w A0 a0) (m0 : a0.length ≤ 9223372036854775807) (r1 : RdA w A1 a1) (m1 : a1.length ≤ 9223372036854775807) (w2 : (Lit.int .i64 a2).wf = true) (ho : ¬ okA a0) :
    Calls Try.prog 6 #[.slice A0 a0.length k0, .slice A1 a1.length k1, .int .i64 a2] w (BoolB w true) := by
  have Hho := Lib.hid ho
  clear ho
  have Hr1 := Lib.hid r1
  clear r1
  have Hr0 := Lib.hid r0
  clear r0
  go_enter Try.func6, Try.ntmps6
  go_wp2_with fail
  refine (shown_any _).mono ?_
  rintro e W1 ⟨rfl, b1⟩
  replace Hr0 := Lib.hid (Hr0.out.below b1)
  replace Hr1 := Lib.hid (Hr1.out.below b1)
  have B := Lib.hid b1
  clear b1
  go_wp2_with fail
  refine (index_r _ _ _ a2 a0 _ Hr0.out rfl m0 (ix_no Hho.out)).mono ?_
  rintro e W2 ⟨A2, n2, c2, rfl, l2, f2, o2, R2, b2⟩
  replace Hr0 := Lib.hid (Hr0.out.below b2)
  replace Hr1 := Lib.hid (Hr1.out.below b2)
  replace B := Lib.hid (B.out.trans (b2.mono B.out.size))
  clear b2
  clear o2 R2 l2
  go_wp2_with fail
  refine (place_r _ _ _ _ _ _ a0 a1 _ Hr0.out Hr1.out rfl rfl m0 m1 (pl_no Hho.out)).mono ?_
  rintro e W3 ⟨rfl, b3⟩
  replace Hr0 := Lib.hid (Hr0.out.below b3)
  replace Hr1 := Lib.hid (Hr1.out.below b3)
  replace B := Lib.hid (B.out.trans (b3.mono B.out.size))
  clear b3
  go_wp2
  go_ret
  exact ⟨rfl, B.out⟩

theorem walk (A0 : Option Addr) (a0 : List Int) (k0 : Nat) (A1 : Option Addr) (a1 : List Int) (k1 : Nat) (a2 : Int) (w : World) (r0 : RdA w A0 a0) (m0 : a0.length ≤ 9223372036854775807) (r1 : RdA w A1 a1) (m1 : a1.length ≤ 9223372036854775807) (w2 : (Lit.int .i64 a2).wf = true) :
    Calls Try.prog 6 #[.slice A0 a0.length k0, .slice A1 a1.length k1, .int .i64 a2] w (BoolB w true) := by
  by_cases ho : okA a0
  · by_cases hp : 0 ≤ a2 ∧ a2 < prodA a0
    · by_cases hi : inA a0 a1
      · exact walk11 A0 a0 k0 A1 a1 k1 a2 w r0 m0 r1 m1 w2 ho hp hi
      · exact walk10 A0 a0 k0 A1 a1 k1 a2 w r0 m0 r1 m1 w2 ho hp hi
    · by_cases hi : inA a0 a1
      · exact walk01 A0 a0 k0 A1 a1 k1 a2 w r0 m0 r1 m1 w2 ho hp hi
      · exact walk00 A0 a0 k0 A1 a1 k1 a2 w r0 m0 r1 m1 w2 ho hp hi
  · exact walkno A0 a0 k0 A1 a1 k1 a2 w r0 m0 r1 m1 w2 ho

set_option maxRecDepth 100000 in
set_option maxHeartbeats 1000000 in
theorem lifted (os : Os) (started : os.Started) (H : Type) (enc : TypeId × Value → H) :
    ReturnsInHanded {} Try.checked os 6 .any (Rows.arrayBackSpec.pre6 enc Try.prog Try.f6 Rows.arrayBackRow.domain false) (Rows.arrayBackSpec.post enc Try.prog Try.f6 false true false false) := by
  refine returnsInHanded_of_change (C := Try.checked) lawOwn started (by kernel_rfl) Try.func6
    (ChangeSpec.witness6 (enc := enc) (C := Try.checked) false ⟨#[], #[.slice none 0 0, .slice none 0 0, .int .i64 0], []⟩ 8 (by kernel_rfl) (by kernel_rfl) (by kernel_rfl) (by kernel_rfl)) ?_
  intro W base args ds gs before hval0 hW hcnd _
  have hval : ∀ (j : Nat) t v, Try.f6.params[j]? = some t → args[j]? = some v → Value.okWide Try.prog W .any base t v := hval0
  have hW' := hW
  obtain ⟨p, q, hA0, hV, rfl, hfz, hnd⟩ := hW
  have hA : DataW.TrodAll enc Try.prog W 0 (fun _ => true) true Try.f6.params.toList args.toList ds p := hA0
  rw [Try.params6] at hA hval
  obtain ⟨rfl, rfl⟩ := trodVars_none hV
  simp only [List.append_nil] at hW'
  obtain ⟨v0, vs0, x0, ds0, pp0, qq0, hargs, rfl, hp, h0, z0⟩ := trodAll_cons hA
  obtain ⟨v1, vs1, x1, ds1, pp1, qq1, rfl, rfl, rfl, h1, z1⟩ := trodAll_cons z0
  obtain ⟨v2, vs2, x2, ds2, pp2, qq2, rfl, rfl, rfl, h2, z2⟩ := trodAll_cons z1
  obtain ⟨rfl, rfl, rfl⟩ := trodAll_nil z2
  obtain rfl : args = #[v0, v1, v2] := by cases args; simp_all
  have hback := fun (W' : World) (hg : Below W.heap.size W W') (sp : Nat → Bool) (hs : ∀ q ∈ p, sp q.block = true) => lawArgsB hg (sp := sp) (by kernel_rfl) hA (fun q hq => hW'.lt q hq) hs
  obtain ⟨xx0, yy0, kk0, rfl⟩ := okWide_slice Try.underlying22 (hval 0 22 v0 rfl rfl)
  obtain ⟨fu0, hf0⟩ := h0
  obtain ⟨A0, a0, k0, e0, r0, m0⟩ := open_nums hf0
  simp [Value.cells] at e0
  obtain ⟨rfl, rfl, rfl⟩ := e0
  obtain ⟨xx1, yy1, kk1, rfl⟩ := okWide_slice Try.underlying22 (hval 1 22 v1 rfl rfl)
  obtain ⟨fu1, hf1⟩ := h1
  obtain ⟨A1, a1, k1, e1, r1, m1⟩ := open_nums hf1
  simp [Value.cells] at e1
  obtain ⟨rfl, rfl, rfl⟩ := e1
  obtain ⟨a2, rfl, _, _, w2⟩ := open_int Try.underlying2 (hval 2 2 v2 rfl rfl) h2
  refine (walk _ _ _ _ _ _ a2 W r0 (len_of m0) r1 (len_of m1) w2).mono fun e W' ⟨he, hg⟩ => ?_
  subst he
  exact ⟨_, rfl, lawPost (pa := p) (pv := []) hW' hg (List.append_nil _).symm (fun _ _ _ => (trodAll_cons_mk (shut_bool Try.underlying4 _) trodAll_mk0)) (fun sp hs => hback W' hg sp hs) (fun _ _ => rfl)
    (ok_one (by kernel_rfl) rfl (okWide_bool_mk Try.underlying4 _))⟩

theorem over : Rows.arrayBackRow.holds Try.pinned (OpenSpec.ofChange Rows.arrayBackSpec) :=
  OpenClaim.holds_of_wide 6 Try.f6 rfl rfl rfl rfl rfl rfl rfl ⟨rfl, rfl, rfl, rfl, rfl⟩ rfl rfl rfl rfl rfl (by kernel_rfl) Try.func6 (by kernel_rfl)
    (of_decide_eq_true (by kernel_rfl)) (by unfold Func.isWrapper; first | (rw [if_pos (by decide +kernel)]; kernel_rfl) | (rw [if_neg (by decide +kernel)]; exact ⟨rfl, rfl⟩))
    (fun os started H enc _ => lifted os started H enc)

/-- The statement. -/
theorem proved : Rows.ArrayBackSaid := over
end Go.Proofs.Ytedfjmidcljmoaa.arrayBack
