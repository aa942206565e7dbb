/- WordTotals: what is told to take all numbers does, and what is refused leaves 0: any function, any numbers. -/
import Derived.Test.YtajlpngbnnbblaaLift
import Derived.Test.YtajlpngbnnbblaaWordG
import Derived.Lib.SmallJoins
namespace Go.Proofs.Ytajlpngbnnbblaa.wordTotals
open Go.ChangeShapes Go.WideShapes Go.ChangeAt Go.RowKit Go.Joins
set_option linter.unusedVariables false
set_option maxRecDepth 100000 in
set_option maxHeartbeats 1000000 in
theorem walk00 (a0_0 : Int) (a0_1 : Int) (a0_2 : Int) (w0_0 : (Lit.int .u8 a0_0).wf = true) (w0_1 : (Lit.int .i64 a0_1).wf = true) (w0_2 : (Lit.int .i64 a0_2).wf = true) (x1 : de a0_0 a0_1 a0_2 = 0) (x2 : tk2 a0_0 = true) (y1 : me a0_0 a0_1 = 0) (y2 : tk1 a0_0 = true) (w : World) :
    Calls Try.prog 11 #[.agg #[.int .u8 a0_0, .int .i64 a0_1, .int .i64 a0_2]] w fun e w' => e = .returned (.bool true) ∧ Grown w w' := by
  have hf := (u8_rng w0_0).1
  have R0 := Lib.hid (i64_rng w0_1)
  have R1 := Lib.hid (i64_rng w0_2)
  clear w0_0 w0_1 w0_2
  go_enter Try.func11, Try.ntmps11
  go_wp2_with (first | (go_at_call 12; refine (shown_any _).mono ?_; rintro e w' ⟨rfl, rfl⟩) | (go_at_call 13; refine (dyad_any _ _ _ hf R0.out R1.out _).mono ?_; rintro e w' ⟨rfl, rfl⟩) | (go_at_call 17; refine (wordMonad_any _ _ hf _).mono ?_; rintro e w' ⟨rfl, rfl⟩) | (go_at_call 15; first | (with_reducible refine (wordTakes2_any _ hf _).mono ?_; rintro e w' ⟨rfl, rfl⟩) | (with_reducible refine (wordTakes1_any _ hf _).mono ?_; rintro e w' ⟨rfl, rfl⟩)) | (go_at_call 22; first | (with_reducible refine (wordTotal2_any _ hf _).mono ?_; rintro e w' ⟨rfl, rfl⟩) | (with_reducible refine (wordTotal1_any _ hf _).mono ?_; rintro e w' ⟨rfl, rfl⟩)))
  all_goals
    go_ret
    exact ⟨rfl, by repeat (first | exact Grown.refl _ | apply Grown.drew | apply Grown.alloc | refine Grown.setCell ?_ (Nat.le_refl _) _)⟩
set_option maxRecDepth 100000 in
set_option maxHeartbeats 1000000 in
theorem walk01 (a0_0 : Int) (a0_1 : Int) (a0_2 : Int) (w0_0 : (Lit.int .u8 a0_0).wf = true) (w0_1 : (Lit.int .i64 a0_1).wf = true) (w0_2 : (Lit.int .i64 a0_2).wf = true) (x1 : de a0_0 a0_1 a0_2 = 0) (x2 : tk2 a0_0 = true) (y1 : me a0_0 a0_1 = 11) (y2 : tk1 a0_0 = true) (y3 : tot1 a0_0 = false) (y4 : mv a0_0 a0_1 = 0) (w : World) :
    Calls Try.prog 11 #[.agg #[.int .u8 a0_0, .int .i64 a0_1, .int .i64 a0_2]] w fun e w' => e = .returned (.bool true) ∧ Grown w w' := by
  have hf := (u8_rng w0_0).1
  have R0 := Lib.hid (i64_rng w0_1)
  have R1 := Lib.hid (i64_rng w0_2)
  clear w0_0 w0_1 w0_2
  go_enter Try.func11, Try.ntmps11
  go_wp2_with (first | (go_at_call 12; refine (shown_any _).mono ?_; rintro e w' ⟨rfl, rfl⟩) | (go_at_call 13; refine (dyad_any _ _ _ hf R0.out R1.out _).mono ?_; rintro e w' ⟨rfl, rfl⟩) | (go_at_call 17; refine (wordMonad_any _ _ hf _).mono ?_; rintro e w' ⟨rfl, rfl⟩) | (go_at_call 15; first | (with_reducible refine (wordTakes2_any _ hf _).mono ?_; rintro e w' ⟨rfl, rfl⟩) | (with_reducible refine (wordTakes1_any _ hf _).mono ?_; rintro e w' ⟨rfl, rfl⟩)) | (go_at_call 22; first | (with_reducible refine (wordTotal2_any _ hf _).mono ?_; rintro e w' ⟨rfl, rfl⟩) | (with_reducible refine (wordTotal1_any _ hf _).mono ?_; rintro e w' ⟨rfl, rfl⟩)))
  all_goals
    go_ret
    exact ⟨rfl, by repeat (first | exact Grown.refl _ | apply Grown.drew | apply Grown.alloc | refine Grown.setCell ?_ (Nat.le_refl _) _)⟩
set_option maxRecDepth 100000 in
set_option maxHeartbeats 1000000 in
theorem walk02 (a0_0 : Int) (a0_1 : Int) (a0_2 : Int) (w0_0 : (Lit.int .u8 a0_0).wf = true) (w0_1 : (Lit.int .i64 a0_1).wf = true) (w0_2 : (Lit.int .i64 a0_2).wf = true) (x1 : de a0_0 a0_1 a0_2 = 0) (x2 : tk2 a0_0 = true) (y1 : me a0_0 a0_1 = 10) (y2 : tk1 a0_0 = false) (y3 : tot1 a0_0 = false) (y4 : mv a0_0 a0_1 = 0) (w : World) :
    Calls Try.prog 11 #[.agg #[.int .u8 a0_0, .int .i64 a0_1, .int .i64 a0_2]] w fun e w' => e = .returned (.bool true) ∧ Grown w w' := by
  have hf := (u8_rng w0_0).1
  have R0 := Lib.hid (i64_rng w0_1)
  have R1 := Lib.hid (i64_rng w0_2)
  clear w0_0 w0_1 w0_2
  go_enter Try.func11, Try.ntmps11
  go_wp2_with (first | (go_at_call 12; refine (shown_any _).mono ?_; rintro e w' ⟨rfl, rfl⟩) | (go_at_call 13; refine (dyad_any _ _ _ hf R0.out R1.out _).mono ?_; rintro e w' ⟨rfl, rfl⟩) | (go_at_call 17; refine (wordMonad_any _ _ hf _).mono ?_; rintro e w' ⟨rfl, rfl⟩) | (go_at_call 15; first | (with_reducible refine (wordTakes2_any _ hf _).mono ?_; rintro e w' ⟨rfl, rfl⟩) | (with_reducible refine (wordTakes1_any _ hf _).mono ?_; rintro e w' ⟨rfl, rfl⟩)) | (go_at_call 22; first | (with_reducible refine (wordTotal2_any _ hf _).mono ?_; rintro e w' ⟨rfl, rfl⟩) | (with_reducible refine (wordTotal1_any _ hf _).mono ?_; rintro e w' ⟨rfl, rfl⟩)))
  all_goals
    go_ret
    exact ⟨rfl, by repeat (first | exact Grown.refl _ | apply Grown.drew | apply Grown.alloc | refine Grown.setCell ?_ (Nat.le_refl _) _)⟩
set_option maxRecDepth 100000 in
set_option maxHeartbeats 1000000 in
theorem walk10 (a0_0 : Int) (a0_1 : Int) (a0_2 : Int) (w0_0 : (Lit.int .u8 a0_0).wf = true) (w0_1 : (Lit.int .i64 a0_1).wf = true) (w0_2 : (Lit.int .i64 a0_2).wf = true) (x1 : de a0_0 a0_1 a0_2 = 11) (x2 : tk2 a0_0 = true) (x3 : tot2 a0_0 = false) (x4 : dv a0_0 a0_1 a0_2 = 0) (y1 : me a0_0 a0_1 = 0) (y2 : tk1 a0_0 = true) (w : World) :
    Calls Try.prog 11 #[.agg #[.int .u8 a0_0, .int .i64 a0_1, .int .i64 a0_2]] w fun e w' => e = .returned (.bool true) ∧ Grown w w' := by
  have hf := (u8_rng w0_0).1
  have R0 := Lib.hid (i64_rng w0_1)
  have R1 := Lib.hid (i64_rng w0_2)
  clear w0_0 w0_1 w0_2
  go_enter Try.func11, Try.ntmps11
  go_wp2_with (first | (go_at_call 12; refine (shown_any _).mono ?_; rintro e w' ⟨rfl, rfl⟩) | (go_at_call 13; refine (dyad_any _ _ _ hf R0.out R1.out _).mono ?_; rintro e w' ⟨rfl, rfl⟩) | (go_at_call 17; refine (wordMonad_any _ _ hf _).mono ?_; rintro e w' ⟨rfl, rfl⟩) | (go_at_call 15; first | (with_reducible refine (wordTakes2_any _ hf _).mono ?_; rintro e w' ⟨rfl, rfl⟩) | (with_reducible refine (wordTakes1_any _ hf _).mono ?_; rintro e w' ⟨rfl, rfl⟩)) | (go_at_call 22; first | (with_reducible refine (wordTotal2_any _ hf _).mono ?_; rintro e w' ⟨rfl, rfl⟩) | (with_reducible refine (wordTotal1_any _ hf _).mono ?_; rintro e w' ⟨rfl, rfl⟩)))
  all_goals
    go_ret
    exact ⟨rfl, by repeat (first | exact Grown.refl _ | apply Grown.drew | apply Grown.alloc | refine Grown.setCell ?_ (Nat.le_refl _) _)⟩
set_option maxRecDepth 100000 in
set_option maxHeartbeats 1000000 in
theorem walk11 (a0_0 : Int) (a0_1 : Int) (a0_2 : Int) (w0_0 : (Lit.int .u8 a0_0).wf = true) (w0_1 : (Lit.int .i64 a0_1).wf = true) (w0_2 : (Lit.int .i64 a0_2).wf = true) (x1 : de a0_0 a0_1 a0_2 = 11) (x2 : tk2 a0_0 = true) (x3 : tot2 a0_0 = false) (x4 : dv a0_0 a0_1 a0_2 = 0) (y1 : me a0_0 a0_1 = 11) (y2 : tk1 a0_0 = true) (y3 : tot1 a0_0 = false) (y4 : mv a0_0 a0_1 = 0) (w : World) :
    Calls Try.prog 11 #[.agg #[.int .u8 a0_0, .int .i64 a0_1, .int .i64 a0_2]] w fun e w' => e = .returned (.bool true) ∧ Grown w w' := by
  have hf := (u8_rng w0_0).1
  have R0 := Lib.hid (i64_rng w0_1)
  have R1 := Lib.hid (i64_rng w0_2)
  clear w0_0 w0_1 w0_2
  go_enter Try.func11, Try.ntmps11
  go_wp2_with (first | (go_at_call 12; refine (shown_any _).mono ?_; rintro e w' ⟨rfl, rfl⟩) | (go_at_call 13; refine (dyad_any _ _ _ hf R0.out R1.out _).mono ?_; rintro e w' ⟨rfl, rfl⟩) | (go_at_call 17; refine (wordMonad_any _ _ hf _).mono ?_; rintro e w' ⟨rfl, rfl⟩) | (go_at_call 15; first | (with_reducible refine (wordTakes2_any _ hf _).mono ?_; rintro e w' ⟨rfl, rfl⟩) | (with_reducible refine (wordTakes1_any _ hf _).mono ?_; rintro e w' ⟨rfl, rfl⟩)) | (go_at_call 22; first | (with_reducible refine (wordTotal2_any _ hf _).mono ?_; rintro e w' ⟨rfl, rfl⟩) | (with_reducible refine (wordTotal1_any _ hf _).mono ?_; rintro e w' ⟨rfl, rfl⟩)))
  all_goals
    go_ret
    exact ⟨rfl, by repeat (first | exact Grown.refl _ | apply Grown.drew | apply Grown.alloc | refine Grown.setCell ?_ (Nat.le_refl _) _)⟩
set_option maxRecDepth 100000 in
set_option maxHeartbeats 1000000 in
theorem walk12 (a0_0 : Int) (a0_1 : Int) (a0_2 : Int) (w0_0 : (Lit.int .u8 a0_0).wf = true) (w0_1 : (Lit.int .i64 a0_1).wf = true) (w0_2 : (Lit.int .i64 a0_2).wf = true) (x1 : de a0_0 a0_1 a0_2 = 11) (x2 : tk2 a0_0 = true) (x3 : tot2 a0_0 = false) (x4 : dv a0_0 a0_1 a0_2 = 0) (y1 : me a0_0 a0_1 = 10) (y2 : tk1 a0_0 = false) (y3 : tot1 a0_0 = false) (y4 : mv a0_0 a0_1 = 0) (w : World) :
    Calls Try.prog 11 #[.agg #[.int .u8 a0_0, .int .i64 a0_1, .int .i64 a0_2]] w fun e w' => e = .returned (.bool true) ∧ Grown w w' := by
  have hf := (u8_rng w0_0).1
  have R0 := Lib.hid (i64_rng w0_1)
  have R1 := Lib.hid (i64_rng w0_2)
  clear w0_0 w0_1 w0_2
  go_enter Try.func11, Try.ntmps11
  go_wp2_with (first | (go_at_call 12; refine (shown_any _).mono ?_; rintro e w' ⟨rfl, rfl⟩) | (go_at_call 13; refine (dyad_any _ _ _ hf R0.out R1.out _).mono ?_; rintro e w' ⟨rfl, rfl⟩) | (go_at_call 17; refine (wordMonad_any _ _ hf _).mono ?_; rintro e w' ⟨rfl, rfl⟩) | (go_at_call 15; first | (with_reducible refine (wordTakes2_any _ hf _).mono ?_; rintro e w' ⟨rfl, rfl⟩) | (with_reducible refine (wordTakes1_any _ hf _).mono ?_; rintro e w' ⟨rfl, rfl⟩)) | (go_at_call 22; first | (with_reducible refine (wordTotal2_any _ hf _).mono ?_; rintro e w' ⟨rfl, rfl⟩) | (with_reducible refine (wordTotal1_any _ hf _).mono ?_; rintro e w' ⟨rfl, rfl⟩)))
  all_goals
    go_ret
    exact ⟨rfl, by repeat (first | exact Grown.refl _ | apply Grown.drew | apply Grown.alloc | refine Grown.setCell ?_ (Nat.le_refl _) _)⟩
set_option maxRecDepth 100000 in
set_option maxHeartbeats 1000000 in
theorem walk20 (a0_0 : Int) (a0_1 : Int) (a0_2 : Int) (w0_0 : (Lit.int .u8 a0_0).wf = true) (w0_1 : (Lit.int .i64 a0_1).wf = true) (w0_2 : (Lit.int .i64 a0_2).wf = true) (x1 : de a0_0 a0_1 a0_2 = 10) (x2 : tk2 a0_0 = false) (x3 : tot2 a0_0 = false) (x4 : dv a0_0 a0_1 a0_2 = 0) (y1 : me a0_0 a0_1 = 0) (y2 : tk1 a0_0 = true) (w : World) :
    Calls Try.prog 11 #[.agg #[.int .u8 a0_0, .int .i64 a0_1, .int .i64 a0_2]] w fun e w' => e = .returned (.bool true) ∧ Grown w w' := by
  have hf := (u8_rng w0_0).1
  have R0 := Lib.hid (i64_rng w0_1)
  have R1 := Lib.hid (i64_rng w0_2)
  clear w0_0 w0_1 w0_2
  go_enter Try.func11, Try.ntmps11
  go_wp2_with (first | (go_at_call 12; refine (shown_any _).mono ?_; rintro e w' ⟨rfl, rfl⟩) | (go_at_call 13; refine (dyad_any _ _ _ hf R0.out R1.out _).mono ?_; rintro e w' ⟨rfl, rfl⟩) | (go_at_call 17; refine (wordMonad_any _ _ hf _).mono ?_; rintro e w' ⟨rfl, rfl⟩) | (go_at_call 15; first | (with_reducible refine (wordTakes2_any _ hf _).mono ?_; rintro e w' ⟨rfl, rfl⟩) | (with_reducible refine (wordTakes1_any _ hf _).mono ?_; rintro e w' ⟨rfl, rfl⟩)) | (go_at_call 22; first | (with_reducible refine (wordTotal2_any _ hf _).mono ?_; rintro e w' ⟨rfl, rfl⟩) | (with_reducible refine (wordTotal1_any _ hf _).mono ?_; rintro e w' ⟨rfl, rfl⟩)))
  all_goals
    go_ret
    exact ⟨rfl, by repeat (first | exact Grown.refl _ | apply Grown.drew | apply Grown.alloc | refine Grown.setCell ?_ (Nat.le_refl _) _)⟩
set_option maxRecDepth 100000 in
set_option maxHeartbeats 1000000 in
theorem walk21 (a0_0 : Int) (a0_1 : Int) (a0_2 : Int) (w0_0 : (Lit.int .u8 a0_0).wf = true) (w0_1 : (Lit.int .i64 a0_1).wf = true) (w0_2 : (Lit.int .i64 a0_2).wf = true) (x1 : de a0_0 a0_1 a0_2 = 10) (x2 : tk2 a0_0 = false) (x3 : tot2 a0_0 = false) (x4 : dv a0_0 a0_1 a0_2 = 0) (y1 : me a0_0 a0_1 = 11) (y2 : tk1 a0_0 = true) (y3 : tot1 a0_0 = false) (y4 : mv a0_0 a0_1 = 0) (w : World) :
    Calls Try.prog 11 #[.agg #[.int .u8 a0_0, .int .i64 a0_1, .int .i64 a0_2]] w fun e w' => e = .returned (.bool true) ∧ Grown w w' := by
  have hf := (u8_rng w0_0).1
  have R0 := Lib.hid (i64_rng w0_1)
  have R1 := Lib.hid (i64_rng w0_2)
  clear w0_0 w0_1 w0_2
  go_enter Try.func11, Try.ntmps11
  go_wp2_with (first | (go_at_call 12; refine (shown_any _).mono ?_; rintro e w' ⟨rfl, rfl⟩) | (go_at_call 13; refine (dyad_any _ _ _ hf R0.out R1.out _).mono ?_; rintro e w' ⟨rfl, rfl⟩) | (go_at_call 17; refine (wordMonad_any _ _ hf _).mono ?_; rintro e w' ⟨rfl, rfl⟩) | (go_at_call 15; first | (with_reducible refine (wordTakes2_any _ hf _).mono ?_; rintro e w' ⟨rfl, rfl⟩) | (with_reducible refine (wordTakes1_any _ hf _).mono ?_; rintro e w' ⟨rfl, rfl⟩)) | (go_at_call 22; first | (with_reducible refine (wordTotal2_any _ hf _).mono ?_; rintro e w' ⟨rfl, rfl⟩) | (with_reducible refine (wordTotal1_any _ hf _).mono ?_; rintro e w' ⟨rfl, rfl⟩)))
  all_goals
    go_ret
    exact ⟨rfl, by repeat (first | exact Grown.refl _ | apply Grown.drew | apply Grown.alloc | refine Grown.setCell ?_ (Nat.le_refl _) _)⟩
set_option maxRecDepth 100000 in
set_option maxHeartbeats 1000000 in
theorem walk22 (a0_0 : Int) (a0_1 : Int) (a0_2 : Int) (w0_0 : (Lit.int .u8 a0_0).wf = true) (w0_1 : (Lit.int .i64 a0_1).wf = true) (w0_2 : (Lit.int .i64 a0_2).wf = true) (x1 : de a0_0 a0_1 a0_2 = 10) (x2 : tk2 a0_0 = false) (x3 : tot2 a0_0 = false) (x4 : dv a0_0 a0_1 a0_2 = 0) (y1 : me a0_0 a0_1 = 10) (y2 : tk1 a0_0 = false) (y3 : tot1 a0_0 = false) (y4 : mv a0_0 a0_1 = 0) (w : World) :
    Calls Try.prog 11 #[.agg #[.int .u8 a0_0, .int .i64 a0_1, .int .i64 a0_2]] w fun e w' => e = .returned (.bool true) ∧ Grown w w' := by
  have hf := (u8_rng w0_0).1
  have R0 := Lib.hid (i64_rng w0_1)
  have R1 := Lib.hid (i64_rng w0_2)
  clear w0_0 w0_1 w0_2
  go_enter Try.func11, Try.ntmps11
  go_wp2_with (first | (go_at_call 12; refine (shown_any _).mono ?_; rintro e w' ⟨rfl, rfl⟩) | (go_at_call 13; refine (dyad_any _ _ _ hf R0.out R1.out _).mono ?_; rintro e w' ⟨rfl, rfl⟩) | (go_at_call 17; refine (wordMonad_any _ _ hf _).mono ?_; rintro e w' ⟨rfl, rfl⟩) | (go_at_call 15; first | (with_reducible refine (wordTakes2_any _ hf _).mono ?_; rintro e w' ⟨rfl, rfl⟩) | (with_reducible refine (wordTakes1_any _ hf _).mono ?_; rintro e w' ⟨rfl, rfl⟩)) | (go_at_call 22; first | (with_reducible refine (wordTotal2_any _ hf _).mono ?_; rintro e w' ⟨rfl, rfl⟩) | (with_reducible refine (wordTotal1_any _ hf _).mono ?_; rintro e w' ⟨rfl, rfl⟩)))
  all_goals
    go_ret
    exact ⟨rfl, by repeat (first | exact Grown.refl _ | apply Grown.drew | apply Grown.alloc | refine Grown.setCell ?_ (Nat.le_refl _) _)⟩
set_option maxRecDepth 100000 in
set_option maxHeartbeats 1000000 in
theorem walk (a0_0 : Int) (a0_1 : Int) (a0_2 : Int) (w0_0 : (Lit.int .u8 a0_0).wf = true) (w0_1 : (Lit.int .i64 a0_1).wf = true) (w0_2 : (Lit.int .i64 a0_2).wf = true) (w : World) :
    Calls Try.prog 11 #[.agg #[.int .u8 a0_0, .int .i64 a0_1, .int .i64 a0_2]] w fun e w' => e = .returned (.bool true) ∧ Grown w w' := by
  obtain ⟨e1, _⟩ := two_errs a0_0 a0_1 a0_2
  obtain ⟨g1, _⟩ := one_errs a0_0 a0_1
  rcases e1 with ⟨x1, x2⟩ | ⟨x1, x2, x3, x4⟩ | ⟨x1, x2, x3, x4⟩ <;> rcases g1 with ⟨y1, y2⟩ | ⟨y1, y2, y3, y4⟩ | ⟨y1, y2, y3, y4⟩
  · exact walk00 a0_0 a0_1 a0_2 w0_0 w0_1 w0_2 x1 x2 y1 y2 w
  · exact walk01 a0_0 a0_1 a0_2 w0_0 w0_1 w0_2 x1 x2 y1 y2 y3 y4 w
  · exact walk02 a0_0 a0_1 a0_2 w0_0 w0_1 w0_2 x1 x2 y1 y2 y3 y4 w
  · exact walk10 a0_0 a0_1 a0_2 w0_0 w0_1 w0_2 x1 x2 x3 x4 y1 y2 w
  · exact walk11 a0_0 a0_1 a0_2 w0_0 w0_1 w0_2 x1 x2 x3 x4 y1 y2 y3 y4 w
  · exact walk12 a0_0 a0_1 a0_2 w0_0 w0_1 w0_2 x1 x2 x3 x4 y1 y2 y3 y4 w
  · exact walk20 a0_0 a0_1 a0_2 w0_0 w0_1 w0_2 x1 x2 x3 x4 y1 y2 w
  · exact walk21 a0_0 a0_1 a0_2 w0_0 w0_1 w0_2 x1 x2 x3 x4 y1 y2 y3 y4 w
  · exact walk22 a0_0 a0_1 a0_2 w0_0 w0_1 w0_2 x1 x2 x3 x4 y1 y2 y3 y4 w
theorem cells_23 : Try.prog.cellsOf 23 = 3 := by kernel_rfl
set_option maxRecDepth 100000 in
theorem lifted (os : Os) (started : os.Started) (H : Type) (enc : TypeId × Value → H) :
    ReturnsInHanded {} Try.checked os 11 .any (Rows.wordTotalsSpec.pre6 enc Try.prog Try.f11 Rows.wordTotalsRow.domain false) (Rows.wordTotalsSpec.post enc Try.prog Try.f11 false true false false) := by
  refine returnsInHanded_of_change (C := Try.checked) lawOwn started (by kernel_rfl) Try.func11
    (ChangeSpec.witness6 (enc := enc) (C := Try.checked) false ⟨#[], #[.agg #[.int .u8 0, .int .i64 0, .int .i64 0]], []⟩ 8 (by kernel_rfl) (by kernel_rfl) (by kernel_rfl) (by kernel_rfl)) ?_
  intro W base args ds gs before hval0 hW hcnd _
  have hval : ∀ (j : Nat) t v, Try.f11.params[j]? = some t → args[j]? = some v → Value.okWide Try.prog W .any base t v := hval0
  have hW' := hW
  obtain ⟨p, q, hA0, hV, rfl, hfz, hnd⟩ := hW
  have hA : DataW.TrodAll enc Try.prog W 0 (fun _ => true) true Try.f11.params.toList args.toList ds p := hA0
  rw [Try.params11] at hA hval
  obtain ⟨rfl, rfl⟩ := trodVars_none hV
  simp only [List.append_nil] at hW'
  obtain ⟨v0, vs0, d0, ds0, p0, q0, hargs, rfl, hp, h0, r0⟩ := trodAll_cons hA
  obtain ⟨rfl, rfl, rfl⟩ := trodAll_nil r0
  obtain rfl : args = #[v0] := by cases args; simp_all
  have hback := fun (W' : World) (hg : Grown W W') (sp : Nat → Bool) (hs : ∀ q ∈ p, sp q.block = true) => lawArgs hg (sp := sp) (by kernel_rfl) hA (fun q hq => hW'.lt q hq) hs
  obtain ⟨c0_0, c0_1, c0_2, y0_0, y0_1, y0_2, m0, rfl, _, _, hy0_0, hy0_1, hy0_2⟩ := open_agg3 Try.underlying23 (by kernel_rfl) cells_23 (hval 0 23 v0 rfl rfl) h0
  obtain ⟨a0_0, e0_0, _, w0_0⟩ := DataW.trod_int Try.underlying5 hy0_0
  simp at e0_0
  subst e0_0
  obtain ⟨a0_1, e0_1, _, w0_1⟩ := DataW.trod_int Try.underlying2 hy0_1
  simp at e0_1
  subst e0_1
  obtain ⟨a0_2, e0_2, _, w0_2⟩ := DataW.trod_int Try.underlying2 hy0_2
  simp at e0_2
  subst e0_2
  refine (walk a0_0 a0_1 a0_2 w0_0 w0_1 w0_2 W).mono fun e W' ⟨he, hg⟩ => ?_
  subst he
  exact ⟨_, rfl, post_of_same (pa := p) (pv := []) hW' (fun _ _ _ => (trodAll_cons_mk (shut_bool Try.underlying4 _) trodAll_mk0)) (fun sp hs => hback W' hg sp hs) (fun _ _ => rfl) (List.append_nil _).symm
    (hg.frame _) hg.2.1 (ok_one (by kernel_rfl) rfl (okWide_bool_mk Try.underlying4 _))⟩

theorem over : Rows.wordTotalsRow.holds Try.pinned (OpenSpec.ofChange Rows.wordTotalsSpec) :=
  OpenClaim.holds_of_wide 11 Try.f11 rfl rfl rfl rfl rfl rfl rfl ⟨rfl, rfl, rfl, rfl, rfl⟩ rfl rfl rfl rfl rfl (by kernel_rfl) Try.func11 (by kernel_rfl)
    (of_decide_eq_true (by kernel_rfl)) (by unfold Func.isWrapper; first | (rw [if_pos (by decide +kernel)]; kernel_rfl) | (rw [if_neg (by decide +kernel)]; exact ⟨rfl, rfl⟩))
    (fun os started H enc _ => lifted os started H enc)

/-- The statement. -/
theorem proved : Rows.WordTotalsSaid := over
end Go.Proofs.Ytajlpngbnnbblaa.wordTotals
