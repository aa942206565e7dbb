/- WordScans: what scans may be put together either way, and its unit changes nothing: any function that scans, any three numbers that it takes. -/
import Derived.Test.YtajlpngbnnbblaaLift
import Derived.Test.YtajlpngbnnbblaaWordH
import Derived.Lib.SmallJoins
namespace Go.Proofs.Ytajlpngbnnbblaa.wordScans
open Go.ChangeShapes Go.WideShapes Go.ChangeAt Go.RowKit Go.Joins
set_option linter.unusedVariables false
set_option maxRecDepth 100000 in
set_option maxHeartbeats 1000000 in
theorem walkNo (a0_0 : Int) (a0_1 : Int) (a0_2 : Int) (a1 : Int) (w0_0 : (Lit.int .u8 a0_0).wf = true) (w0_1 : (Lit.int .i64 a0_1).wf = true) (w0_2 : (Lit.int .i64 a0_2).wf = true) (w1 : (Lit.int .i64 a1).wf = true) (hs : sc a0_0 = false) (w : World) :
    Calls Try.prog 10 #[.agg #[.int .u8 a0_0, .int .i64 a0_1, .int .i64 a0_2], .int .i64 a1] w fun e w' => e = .returned (.bool true) ∧ Grown w w' := by
  have hf := (u8_rng w0_0).1
  clear w0_0 w0_1 w0_2 w1
  go_enter Try.func10, Try.ntmps10
  go_wp2_with (first | (go_at_call 12; refine (shown_any _).mono ?_; rintro e w' ⟨rfl, rfl⟩) | (go_at_call 21; refine (wordScans_any _ hf _).mono ?_; rintro e w' ⟨rfl, rfl⟩))
  go_ret
  exact ⟨rfl, by repeat (first | exact Grown.refl _ | apply Grown.drew | apply Grown.alloc | refine Grown.setCell ?_ (Nat.le_refl _) _)⟩
set_option maxRecDepth 100000 in
set_option maxHeartbeats 1000000 in
theorem walk1 (a0_1 : Int) (a0_2 : Int) (a1 : Int) (w0_1 : (Lit.int .i64 a0_1).wf = true) (w0_2 : (Lit.int .i64 a0_2).wf = true) (w1 : (Lit.int .i64 a1).wf = true) (w : World) :
    Calls Try.prog 10 #[.agg #[.int .u8 1, .int .i64 a0_1, .int .i64 a0_2], .int .i64 a1] w fun e w' => e = .returned (.bool true) ∧ Grown w w' := by
  have R0 := Lib.hid (i64_rng w0_1)
  have R1 := Lib.hid (i64_rng w0_2)
  have R2 := Lib.hid (i64_rng w1)
  clear w0_1 w0_2 w1
  have S1 : sc 1 = true := by decide
  have S2 : tot2 1 = true := by decide
  have S3 : ∀ a b, de 1 a b = 0 := fun _ _ => rfl
  have S4 : uv 1 = 0 := by decide
  have S5 : ub 1 = true := by decide
  have R3 := Lib.hid (dvs_rng 1 (by decide) _ _ R0.out R1.out)
  have R4 := Lib.hid (dvs_rng 1 (by decide) _ _ R1.out R2.out)
  have R5 : Hid (-9223372036854775808 ≤ (0 : Int) ∧ (0 : Int) ≤ 9223372036854775807) := by show _ ∧ _; omega
  have T1 := scan1 a0_1 a0_2 a1
  have T2 := unit1 a0_1 R0.out
  go_enter Try.func10, Try.ntmps10
  go_wp2_with (first | (go_at_call 12; refine (shown_any _).mono ?_; rintro e w' ⟨rfl, rfl⟩) | (go_at_call 21; refine (wordScans_any _ (by decide) _).mono ?_; rintro e w' ⟨rfl, rfl⟩) | (go_at_call 22; refine (wordTotal2_any _ (by decide) _).mono ?_; rintro e w' ⟨rfl, rfl⟩) | (go_at_call 19; refine (wordUnit_any _ (by decide) _).mono ?_; rintro e w' ⟨rfl, rfl⟩) | (go_at_call 13; refine (dyad_any _ _ _ (by decide) (by first | exact R0.out | exact R1.out | exact R2.out | exact R3.out | exact R4.out | exact R5.out) (by first | exact R0.out | exact R1.out | exact R2.out | exact R3.out | exact R4.out | exact R5.out) _).mono ?_; rintro e w' ⟨rfl, rfl⟩))
  go_ret
  exact ⟨rfl, by repeat (first | exact Grown.refl _ | apply Grown.drew | apply Grown.alloc | refine Grown.setCell ?_ (Nat.le_refl _) _)⟩
set_option maxRecDepth 100000 in
set_option maxHeartbeats 1000000 in
theorem walk3 (a0_1 : Int) (a0_2 : Int) (a1 : Int) (w0_1 : (Lit.int .i64 a0_1).wf = true) (w0_2 : (Lit.int .i64 a0_2).wf = true) (w1 : (Lit.int .i64 a1).wf = true) (w : World) :
    Calls Try.prog 10 #[.agg #[.int .u8 3, .int .i64 a0_1, .int .i64 a0_2], .int .i64 a1] w fun e w' => e = .returned (.bool true) ∧ Grown w w' := by
  have R0 := Lib.hid (i64_rng w0_1)
  have R1 := Lib.hid (i64_rng w0_2)
  have R2 := Lib.hid (i64_rng w1)
  clear w0_1 w0_2 w1
  have S1 : sc 3 = true := by decide
  have S2 : tot2 3 = true := by decide
  have S3 : ∀ a b, de 3 a b = 0 := fun _ _ => rfl
  have S4 : uv 3 = 1 := by decide
  have S5 : ub 3 = true := by decide
  have R3 := Lib.hid (dvs_rng 3 (by decide) _ _ R0.out R1.out)
  have R4 := Lib.hid (dvs_rng 3 (by decide) _ _ R1.out R2.out)
  have R5 : Hid (-9223372036854775808 ≤ (1 : Int) ∧ (1 : Int) ≤ 9223372036854775807) := by show _ ∧ _; omega
  have T1 := scan3 a0_1 a0_2 a1
  have T2 := unit3 a0_1 R0.out
  go_enter Try.func10, Try.ntmps10
  go_wp2_with (first | (go_at_call 12; refine (shown_any _).mono ?_; rintro e w' ⟨rfl, rfl⟩) | (go_at_call 21; refine (wordScans_any _ (by decide) _).mono ?_; rintro e w' ⟨rfl, rfl⟩) | (go_at_call 22; refine (wordTotal2_any _ (by decide) _).mono ?_; rintro e w' ⟨rfl, rfl⟩) | (go_at_call 19; refine (wordUnit_any _ (by decide) _).mono ?_; rintro e w' ⟨rfl, rfl⟩) | (go_at_call 13; refine (dyad_any _ _ _ (by decide) (by first | exact R0.out | exact R1.out | exact R2.out | exact R3.out | exact R4.out | exact R5.out) (by first | exact R0.out | exact R1.out | exact R2.out | exact R3.out | exact R4.out | exact R5.out) _).mono ?_; rintro e w' ⟨rfl, rfl⟩))
  go_ret
  exact ⟨rfl, by repeat (first | exact Grown.refl _ | apply Grown.drew | apply Grown.alloc | refine Grown.setCell ?_ (Nat.le_refl _) _)⟩
set_option maxRecDepth 100000 in
set_option maxHeartbeats 1000000 in
theorem walk6 (a0_1 : Int) (a0_2 : Int) (a1 : Int) (w0_1 : (Lit.int .i64 a0_1).wf = true) (w0_2 : (Lit.int .i64 a0_2).wf = true) (w1 : (Lit.int .i64 a1).wf = true) (w : World) :
    Calls Try.prog 10 #[.agg #[.int .u8 6, .int .i64 a0_1, .int .i64 a0_2], .int .i64 a1] w fun e w' => e = .returned (.bool true) ∧ Grown w w' := by
  have R0 := Lib.hid (i64_rng w0_1)
  have R1 := Lib.hid (i64_rng w0_2)
  have R2 := Lib.hid (i64_rng w1)
  clear w0_1 w0_2 w1
  have S1 : sc 6 = true := by decide
  have S2 : tot2 6 = true := by decide
  have S3 : ∀ a b, de 6 a b = 0 := fun _ _ => rfl
  have S4 : uv 6 = 9223372036854775807 := by decide
  have S5 : ub 6 = true := by decide
  have R3 := Lib.hid (dvs_rng 6 (by decide) _ _ R0.out R1.out)
  have R4 := Lib.hid (dvs_rng 6 (by decide) _ _ R1.out R2.out)
  have R5 : Hid (-9223372036854775808 ≤ (9223372036854775807 : Int) ∧ (9223372036854775807 : Int) ≤ 9223372036854775807) := by show _ ∧ _; omega
  have T1 := scan6 a0_1 a0_2 a1
  have T2 := unit6 a0_1 R0.out
  go_enter Try.func10, Try.ntmps10
  go_wp2_with (first | (go_at_call 12; refine (shown_any _).mono ?_; rintro e w' ⟨rfl, rfl⟩) | (go_at_call 21; refine (wordScans_any _ (by decide) _).mono ?_; rintro e w' ⟨rfl, rfl⟩) | (go_at_call 22; refine (wordTotal2_any _ (by decide) _).mono ?_; rintro e w' ⟨rfl, rfl⟩) | (go_at_call 19; refine (wordUnit_any _ (by decide) _).mono ?_; rintro e w' ⟨rfl, rfl⟩) | (go_at_call 13; refine (dyad_any _ _ _ (by decide) (by first | exact R0.out | exact R1.out | exact R2.out | exact R3.out | exact R4.out | exact R5.out) (by first | exact R0.out | exact R1.out | exact R2.out | exact R3.out | exact R4.out | exact R5.out) _).mono ?_; rintro e w' ⟨rfl, rfl⟩))
  go_ret
  exact ⟨rfl, by repeat (first | exact Grown.refl _ | apply Grown.drew | apply Grown.alloc | refine Grown.setCell ?_ (Nat.le_refl _) _)⟩
set_option maxRecDepth 100000 in
set_option maxHeartbeats 1000000 in
theorem walk7 (a0_1 : Int) (a0_2 : Int) (a1 : Int) (w0_1 : (Lit.int .i64 a0_1).wf = true) (w0_2 : (Lit.int .i64 a0_2).wf = true) (w1 : (Lit.int .i64 a1).wf = true) (w : World) :
    Calls Try.prog 10 #[.agg #[.int .u8 7, .int .i64 a0_1, .int .i64 a0_2], .int .i64 a1] w fun e w' => e = .returned (.bool true) ∧ Grown w w' := by
  have R0 := Lib.hid (i64_rng w0_1)
  have R1 := Lib.hid (i64_rng w0_2)
  have R2 := Lib.hid (i64_rng w1)
  clear w0_1 w0_2 w1
  have S1 : sc 7 = true := by decide
  have S2 : tot2 7 = true := by decide
  have S3 : ∀ a b, de 7 a b = 0 := fun _ _ => rfl
  have S4 : uv 7 = (-9223372036854775808) := by decide
  have S5 : ub 7 = true := by decide
  have R3 := Lib.hid (dvs_rng 7 (by decide) _ _ R0.out R1.out)
  have R4 := Lib.hid (dvs_rng 7 (by decide) _ _ R1.out R2.out)
  have R5 : Hid (-9223372036854775808 ≤ ((-9223372036854775808) : Int) ∧ ((-9223372036854775808) : Int) ≤ 9223372036854775807) := by show _ ∧ _; omega
  have T1 := scan7 a0_1 a0_2 a1
  have T2 := unit7 a0_1 R0.out
  go_enter Try.func10, Try.ntmps10
  go_wp2_with (first | (go_at_call 12; refine (shown_any _).mono ?_; rintro e w' ⟨rfl, rfl⟩) | (go_at_call 21; refine (wordScans_any _ (by decide) _).mono ?_; rintro e w' ⟨rfl, rfl⟩) | (go_at_call 22; refine (wordTotal2_any _ (by decide) _).mono ?_; rintro e w' ⟨rfl, rfl⟩) | (go_at_call 19; refine (wordUnit_any _ (by decide) _).mono ?_; rintro e w' ⟨rfl, rfl⟩) | (go_at_call 13; refine (dyad_any _ _ _ (by decide) (by first | exact R0.out | exact R1.out | exact R2.out | exact R3.out | exact R4.out | exact R5.out) (by first | exact R0.out | exact R1.out | exact R2.out | exact R3.out | exact R4.out | exact R5.out) _).mono ?_; rintro e w' ⟨rfl, rfl⟩))
  go_ret
  exact ⟨rfl, by repeat (first | exact Grown.refl _ | apply Grown.drew | apply Grown.alloc | refine Grown.setCell ?_ (Nat.le_refl _) _)⟩
set_option maxRecDepth 100000 in
set_option maxHeartbeats 1000000 in
theorem walk14 (a0_1 : Int) (a0_2 : Int) (a1 : Int) (w0_1 : (Lit.int .i64 a0_1).wf = true) (w0_2 : (Lit.int .i64 a0_2).wf = true) (w1 : (Lit.int .i64 a1).wf = true) (w : World) :
    Calls Try.prog 10 #[.agg #[.int .u8 14, .int .i64 a0_1, .int .i64 a0_2], .int .i64 a1] w fun e w' => e = .returned (.bool true) ∧ Grown w w' := by
  clear w0_1 w0_2 w1
  obtain ⟨x, hx⟩ : ∃ x, bits .and .i64 a0_1 1 = x := ⟨_, rfl⟩
  obtain ⟨y, hy⟩ : ∃ y, bits .and .i64 a0_2 1 = y := ⟨_, rfl⟩
  obtain ⟨z, hz⟩ : ∃ z, bits .and .i64 a1 1 = z := ⟨_, rfl⟩
  have bx := Lib.hid (hx ▸ bit_rng a0_1)
  have bY := Lib.hid (hy ▸ bit_rng a0_2)
  have bz := Lib.hid (hz ▸ bit_rng a1)
  have S1 : sc 14 = true := by decide
  have S2 : tot2 14 = false := by decide
  have S4 : uv 14 = 1 := by decide
  have S5 : ub 14 = true := by decide
  have S6 := bit14_ok x y bx.out bY.out
  have S7 := bit14_ok y z bY.out bz.out
  have by1 := Lib.hid (bit14_bit x y bx.out bY.out)
  have by2 := Lib.hid (bit14_bit y z bY.out bz.out)
  have S8 := bit14_ok _ z by1.out bz.out
  have S9 := bit14_ok x _ bx.out by2.out
  have T1 := bit14_assoc x y z bx.out bY.out bz.out
  have T2 := bit14_unit x bx.out
  have S10 := bit14_uok x bx.out
  have R0 := Lib.hid (bit_in bx.out)
  have R1 := Lib.hid (bit_in bY.out)
  have R2 := Lib.hid (bit_in bz.out)
  have R3 := Lib.hid (bit_in by1.out)
  have R4 := Lib.hid (bit_in by2.out)
  have R5 : Hid (-9223372036854775808 ≤ (1 : Int) ∧ (1 : Int) ≤ 9223372036854775807) := by show _ ∧ _; omega
  go_enter Try.func10, Try.ntmps10
  go_wp2_with (first | (go_at_call 12; refine (shown_any _).mono ?_; rintro e w' ⟨rfl, rfl⟩) | (go_at_call 21; refine (wordScans_any _ (by decide) _).mono ?_; rintro e w' ⟨rfl, rfl⟩) | (go_at_call 22; refine (wordTotal2_any _ (by decide) _).mono ?_; rintro e w' ⟨rfl, rfl⟩) | (go_at_call 19; refine (wordUnit_any _ (by decide) _).mono ?_; rintro e w' ⟨rfl, rfl⟩) | (go_at_call 13; refine (dyad_any _ _ _ (by decide) (by first | exact R0.out | exact R1.out | exact R2.out | exact R3.out | exact R4.out | exact R5.out) (by first | exact R0.out | exact R1.out | exact R2.out | exact R3.out | exact R4.out | exact R5.out) _).mono ?_; rintro e w' ⟨rfl, rfl⟩))
  go_ret
  exact ⟨rfl, by repeat (first | exact Grown.refl _ | apply Grown.drew | apply Grown.alloc | refine Grown.setCell ?_ (Nat.le_refl _) _)⟩
set_option maxRecDepth 100000 in
set_option maxHeartbeats 1000000 in
theorem walk15 (a0_1 : Int) (a0_2 : Int) (a1 : Int) (w0_1 : (Lit.int .i64 a0_1).wf = true) (w0_2 : (Lit.int .i64 a0_2).wf = true) (w1 : (Lit.int .i64 a1).wf = true) (w : World) :
    Calls Try.prog 10 #[.agg #[.int .u8 15, .int .i64 a0_1, .int .i64 a0_2], .int .i64 a1] w fun e w' => e = .returned (.bool true) ∧ Grown w w' := by
  clear w0_1 w0_2 w1
  obtain ⟨x, hx⟩ : ∃ x, bits .and .i64 a0_1 1 = x := ⟨_, rfl⟩
  obtain ⟨y, hy⟩ : ∃ y, bits .and .i64 a0_2 1 = y := ⟨_, rfl⟩
  obtain ⟨z, hz⟩ : ∃ z, bits .and .i64 a1 1 = z := ⟨_, rfl⟩
  have bx := Lib.hid (hx ▸ bit_rng a0_1)
  have bY := Lib.hid (hy ▸ bit_rng a0_2)
  have bz := Lib.hid (hz ▸ bit_rng a1)
  have S1 : sc 15 = true := by decide
  have S2 : tot2 15 = false := by decide
  have S4 : uv 15 = 0 := by decide
  have S5 : ub 15 = true := by decide
  have S6 := bit15_ok x y bx.out bY.out
  have S7 := bit15_ok y z bY.out bz.out
  have by1 := Lib.hid (bit15_bit x y bx.out bY.out)
  have by2 := Lib.hid (bit15_bit y z bY.out bz.out)
  have S8 := bit15_ok _ z by1.out bz.out
  have S9 := bit15_ok x _ bx.out by2.out
  have T1 := bit15_assoc x y z bx.out bY.out bz.out
  have T2 := bit15_unit x bx.out
  have S10 := bit15_uok x bx.out
  have R0 := Lib.hid (bit_in bx.out)
  have R1 := Lib.hid (bit_in bY.out)
  have R2 := Lib.hid (bit_in bz.out)
  have R3 := Lib.hid (bit_in by1.out)
  have R4 := Lib.hid (bit_in by2.out)
  have R5 : Hid (-9223372036854775808 ≤ (0 : Int) ∧ (0 : Int) ≤ 9223372036854775807) := by show _ ∧ _; omega
  go_enter Try.func10, Try.ntmps10
  go_wp2_with (first | (go_at_call 12; refine (shown_any _).mono ?_; rintro e w' ⟨rfl, rfl⟩) | (go_at_call 21; refine (wordScans_any _ (by decide) _).mono ?_; rintro e w' ⟨rfl, rfl⟩) | (go_at_call 22; refine (wordTotal2_any _ (by decide) _).mono ?_; rintro e w' ⟨rfl, rfl⟩) | (go_at_call 19; refine (wordUnit_any _ (by decide) _).mono ?_; rintro e w' ⟨rfl, rfl⟩) | (go_at_call 13; refine (dyad_any _ _ _ (by decide) (by first | exact R0.out | exact R1.out | exact R2.out | exact R3.out | exact R4.out | exact R5.out) (by first | exact R0.out | exact R1.out | exact R2.out | exact R3.out | exact R4.out | exact R5.out) _).mono ?_; rintro e w' ⟨rfl, rfl⟩))
  go_ret
  exact ⟨rfl, by repeat (first | exact Grown.refl _ | apply Grown.drew | apply Grown.alloc | refine Grown.setCell ?_ (Nat.le_refl _) _)⟩
set_option maxRecDepth 100000 in
set_option maxHeartbeats 1000000 in
theorem walk (a0_0 : Int) (a0_1 : Int) (a0_2 : Int) (a1 : Int) (w0_0 : (Lit.int .u8 a0_0).wf = true) (w0_1 : (Lit.int .i64 a0_1).wf = true) (w0_2 : (Lit.int .i64 a0_2).wf = true) (w1 : (Lit.int .i64 a1).wf = true) (w : World) :
    Calls Try.prog 10 #[.agg #[.int .u8 a0_0, .int .i64 a0_1, .int .i64 a0_2], .int .i64 a1] w fun e w' => e = .returned (.bool true) ∧ Grown w w' := by
  rcases sc_cases a0_0 with h | rfl | rfl | rfl | rfl | rfl | rfl
  · exact walkNo a0_0 a0_1 a0_2 a1 w0_0 w0_1 w0_2 w1 h w
  · exact walk1 a0_1 a0_2 a1 w0_1 w0_2 w1 w
  · exact walk3 a0_1 a0_2 a1 w0_1 w0_2 w1 w
  · exact walk6 a0_1 a0_2 a1 w0_1 w0_2 w1 w
  · exact walk7 a0_1 a0_2 a1 w0_1 w0_2 w1 w
  · exact walk14 a0_1 a0_2 a1 w0_1 w0_2 w1 w
  · exact walk15 a0_1 a0_2 a1 w0_1 w0_2 w1 w
theorem cells_23 : Try.prog.cellsOf 23 = 3 := by kernel_rfl
set_option maxRecDepth 100000 in
theorem lifted (os : Os) (started : os.Started) (H : Type) (enc : TypeId × Value → H) :
    ReturnsInHanded {} Try.checked os 10 .any (Rows.wordScansSpec.pre6 enc Try.prog Try.f10 Rows.wordScansRow.domain false) (Rows.wordScansSpec.post enc Try.prog Try.f10 false true false false) := by
  refine returnsInHanded_of_change (C := Try.checked) lawOwn started (by kernel_rfl) Try.func10
    (ChangeSpec.witness6 (enc := enc) (C := Try.checked) false ⟨#[], #[.agg #[.int .u8 0, .int .i64 0, .int .i64 0], .int .i64 0], []⟩ 8 (by kernel_rfl) (by kernel_rfl) (by kernel_rfl) (by kernel_rfl)) ?_
  intro W base args ds gs before hval0 hW hcnd _
  have hval : ∀ (j : Nat) t v, Try.f10.params[j]? = some t → args[j]? = some v → Value.okWide Try.prog W .any base t v := hval0
  have hW' := hW
  obtain ⟨p, q, hA0, hV, rfl, hfz, hnd⟩ := hW
  have hA : DataW.TrodAll enc Try.prog W 0 (fun _ => true) true Try.f10.params.toList args.toList ds p := hA0
  rw [Try.params10] at hA hval
  obtain ⟨rfl, rfl⟩ := trodVars_none hV
  simp only [List.append_nil] at hW'
  obtain ⟨v0, vs0, d0, ds0, p0, q0, hargs, rfl, hp, h0, r0⟩ := trodAll_cons hA
  obtain ⟨v1, vs1, d1, ds1, p1, q1, rfl, rfl, rfl, h1, r1⟩ := trodAll_cons r0
  obtain ⟨rfl, rfl, rfl⟩ := trodAll_nil r1
  obtain rfl : args = #[v0, v1] := by cases args; simp_all
  have hback := fun (W' : World) (hg : Grown W W') (sp : Nat → Bool) (hs : ∀ q ∈ p, sp q.block = true) => lawArgs hg (sp := sp) (by kernel_rfl) hA (fun q hq => hW'.lt q hq) hs
  obtain ⟨c0_0, c0_1, c0_2, y0_0, y0_1, y0_2, m0, rfl, _, _, hy0_0, hy0_1, hy0_2⟩ := open_agg3 Try.underlying23 (by kernel_rfl) cells_23 (hval 0 23 v0 rfl rfl) h0
  obtain ⟨a0_0, e0_0, _, w0_0⟩ := DataW.trod_int Try.underlying5 hy0_0
  simp at e0_0
  subst e0_0
  obtain ⟨a0_1, e0_1, _, w0_1⟩ := DataW.trod_int Try.underlying2 hy0_1
  simp at e0_1
  subst e0_1
  obtain ⟨a0_2, e0_2, _, w0_2⟩ := DataW.trod_int Try.underlying2 hy0_2
  simp at e0_2
  subst e0_2
  obtain ⟨a1, rfl, _, _, w1⟩ := open_int Try.underlying2 (hval 1 2 v1 rfl rfl) h1
  refine (walk a0_0 a0_1 a0_2 a1 w0_0 w0_1 w0_2 w1 W).mono fun e W' ⟨he, hg⟩ => ?_
  subst he
  exact ⟨_, rfl, post_of_same (pa := p) (pv := []) hW' (fun _ _ _ => (trodAll_cons_mk (shut_bool Try.underlying4 _) trodAll_mk0)) (fun sp hs => hback W' hg sp hs) (fun _ _ => rfl) (List.append_nil _).symm
    (hg.frame _) hg.2.1 (ok_one (by kernel_rfl) rfl (okWide_bool_mk Try.underlying4 _))⟩

theorem over : Rows.wordScansRow.holds Try.pinned (OpenSpec.ofChange Rows.wordScansSpec) :=
  OpenClaim.holds_of_wide 10 Try.f10 rfl rfl rfl rfl rfl rfl rfl ⟨rfl, rfl, rfl, rfl, rfl⟩ rfl rfl rfl rfl rfl (by kernel_rfl) Try.func10 (by kernel_rfl)
    (of_decide_eq_true (by kernel_rfl)) (by unfold Func.isWrapper; first | (rw [if_pos (by decide +kernel)]; kernel_rfl) | (rw [if_neg (by decide +kernel)]; exact ⟨rfl, rfl⟩))
    (fun os started H enc _ => lifted os started H enc)

/-- The statement. -/
theorem proved : Rows.WordScansSaid := over
end Go.Proofs.Ytajlpngbnnbblaa.wordScans
