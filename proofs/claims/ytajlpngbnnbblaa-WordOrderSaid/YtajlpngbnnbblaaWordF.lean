/- The examples at the head of every statement of layer 1, and the laws' own function of two numbers. -/
import Derived.Test.YtajlpngbnnbblaaWordE
namespace Go.Proofs.Ytajlpngbnnbblaa
open Go.RowKit
theorem ex1 (w : World) : Calls Try.prog 13 #[.int .u8 4, .int .i64 (-7), .int .i64 2] w fun e w' => e = .returned (.tuple #[.int .i64 (-4), .int .i64 0]) ∧ w' = w :=
  (dyad_4 (-7) 2 w).mono fun _ _ h => ⟨h.1.trans (ret_i64e (by decide +kernel) (by decide +kernel)), h.2⟩
theorem ex2 (w : World) : Calls Try.prog 13 #[.int .u8 5, .int .i64 (-3), .int .i64 7] w fun e w' => e = .returned (.tuple #[.int .i64 (-2), .int .i64 0]) ∧ w' = w :=
  (dyad_5 (-3) 7 (by omega) w).mono fun _ _ h => ⟨h.1.trans (ret_i64e (by decide +kernel) (by decide +kernel)), h.2⟩
theorem ex3 (w : World) : Calls Try.prog 13 #[.int .u8 17, .int .i64 2, .int .i64 10] w fun e w' => e = .returned (.tuple #[.int .i64 1024, .int .i64 0]) ∧ w' = w :=
  (dyad_17 2 10 (by omega) w).mono fun _ _ h => ⟨h.1.trans (ret_i64e (by decide +kernel) (by decide +kernel)), h.2⟩
theorem ex4 (w : World) : Calls Try.prog 13 #[.int .u8 14, .int .i64 1, .int .i64 2] w fun e w' => e = .returned (.tuple #[.int .i64 0, .int .i64 11]) ∧ w' = w :=
  (dyad_14 1 2 w).mono fun _ _ h => ⟨h.1.trans (ret_i64e (by decide +kernel) (by decide +kernel)), h.2⟩
theorem ex5 (w : World) : Calls Try.prog 17 #[.int .u8 8, .int .i64 1] w fun e w' => e = .returned (.tuple #[.int .i64 0, .int .i64 10]) ∧ w' = w :=
  (wordMonad_8 1 w).mono fun _ _ h => ⟨h.1.trans (ret_i64e (by decide +kernel) (by decide +kernel)), h.2⟩
theorem ex6 (w : World) : Calls Try.prog 19 #[.int .u8 4] w fun e w' => e = .returned (.tuple #[.int .i64 1, .bool true]) ∧ w' = w :=
  (wordUnit_4 w).mono fun _ _ h => ⟨h.1.trans (ret_i64b (by decide +kernel) (by decide +kernel)), h.2⟩
theorem ex7 (w : World) : Calls Try.prog 21 #[.int .u8 2] w fun e w' => e = .returned (.bool false) ∧ w' = w :=
  (wordScans_2 w).mono fun _ _ h => ⟨h.1.trans (ret_b (by decide +kernel)), h.2⟩
theorem ex8 (w : World) : Calls Try.prog 22 #[.int .u8 2, .bool true] w fun e w' => e = .returned (.bool true) ∧ w' = w :=
  (wordTotal2_2 w).mono fun _ _ h => ⟨h.1.trans (ret_b (by decide +kernel)), h.2⟩
theorem ex9 (w : World) : Calls Try.prog 15 #[.int .u8 16, .bool false] w fun e w' => e = .returned (.bool true) ∧ w' = w :=
  (wordTakes1_16 w).mono fun _ _ h => ⟨h.1.trans (ret_b (by decide +kernel)), h.2⟩
set_option maxRecDepth 100000 in
set_option maxHeartbeats 1000000 in
theorem shown_any (w : World) : Calls Try.prog 12 #[] w fun e w' => e = .returned (.bool true) ∧ w' = w := by
  go_enter Try.func12, Try.ntmps12
  go_wp2_with fail
  refine (ex1 _).mono ?_; rintro e w' ⟨rfl, rfl⟩
  go_wp2_with fail
  refine (ex2 _).mono ?_; rintro e w' ⟨rfl, rfl⟩
  go_wp2_with fail
  refine (ex3 _).mono ?_; rintro e w' ⟨rfl, rfl⟩
  go_wp2_with fail
  refine (ex4 _).mono ?_; rintro e w' ⟨rfl, rfl⟩
  go_wp2_with fail
  refine (ex5 _).mono ?_; rintro e w' ⟨rfl, rfl⟩
  go_wp2_with fail
  refine (ex6 _).mono ?_; rintro e w' ⟨rfl, rfl⟩
  go_wp2_with fail
  refine (ex7 _).mono ?_; rintro e w' ⟨rfl, rfl⟩
  go_wp2_with fail
  refine (ex8 _).mono ?_; rintro e w' ⟨rfl, rfl⟩
  go_wp2_with fail
  refine (ex9 _).mono ?_; rintro e w' ⟨rfl, rfl⟩
  go_wp2
  go_ret
  exact ⟨rfl, rfl⟩
set_option maxHeartbeats 400000 in
theorem ldyad_any (f a b : Int) (hf : 0 ≤ f) (wa : -9223372036854775808 ≤ a ∧ a ≤ 9223372036854775807) (wb : -9223372036854775808 ≤ b ∧ b ≤ 9223372036854775807) (w : World) : Calls Try.prog 25 #[.int .u8 f, .int .i64 a, .int .i64 b] w fun e w' => e = .returned (.int .i64 (dv f a b)) ∧ w' = w := by
  have H1 := Lib.hid wa
  have H2 := Lib.hid wb
  clear wa wb
  go_enter Try.func25, Try.ntmps25
  go_wp2_with (go_at_call 13; refine (dyad_any f a b hf H1.out H2.out _).mono ?_; rintro e w' ⟨rfl, rfl⟩)
  go_ret
  exact ⟨rfl, rfl⟩
end Go.Proofs.Ytajlpngbnnbblaa
