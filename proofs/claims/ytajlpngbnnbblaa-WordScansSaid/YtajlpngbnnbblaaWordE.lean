/- Contracts of Monad (both) and of the document's Dyad. Written by gen_d.py. -/
import Derived.Test.YtajlpngbnnbblaaWordD
namespace Go.Proofs.Ytajlpngbnnbblaa
open Go.RowKit
theorem mv_hi (f a : Int) (h : 18 ≤ f) : mv f a = 0 := by
  unfold mv; repeat (rw [if_neg (by omega)])
theorem me_hi (f a : Int) (h : 18 ≤ f) : me f a = 10 := by
  unfold me; repeat (rw [if_neg (by omega)])

set_option maxRecDepth 100000 in
set_option maxHeartbeats 400000 in
theorem wordMonad_0 (a : Int) (w : World) : Calls Try.prog 17 #[.int .u8 0, .int .i64 a] w fun e w' => e = .returned (.tuple #[.int .i64 (mv 0 a), .int .i64 (me 0 a)]) ∧ w' = w := by
  go_enter Try.func17, Try.ntmps17
  go_wp2
  all_goals
    go_ret2
    exact ⟨ret_i64e (by simp [mv]) (by simp [me]), rfl⟩

set_option maxRecDepth 100000 in
set_option maxHeartbeats 400000 in
theorem wordMonad_8 (a : Int) (w : World) : Calls Try.prog 17 #[.int .u8 8, .int .i64 a] w fun e w' => e = .returned (.tuple #[.int .i64 (mv 8 a), .int .i64 (me 8 a)]) ∧ w' = w := by
  go_enter Try.func17, Try.ntmps17
  go_wp2
  all_goals
    go_ret2
    exact ⟨ret_i64e (by simp [mv]) (by simp [me]), rfl⟩

set_option maxRecDepth 100000 in
set_option maxHeartbeats 400000 in
theorem wordMonad_9 (a : Int) (w : World) : Calls Try.prog 17 #[.int .u8 9, .int .i64 a] w fun e w' => e = .returned (.tuple #[.int .i64 (mv 9 a), .int .i64 (me 9 a)]) ∧ w' = w := by
  go_enter Try.func17, Try.ntmps17
  go_wp2
  all_goals
    go_ret2
    exact ⟨ret_i64e (by simp [mv]) (by simp [me]), rfl⟩

set_option maxRecDepth 100000 in
set_option maxHeartbeats 400000 in
theorem wordMonad_10 (a : Int) (w : World) : Calls Try.prog 17 #[.int .u8 10, .int .i64 a] w fun e w' => e = .returned (.tuple #[.int .i64 (mv 10 a), .int .i64 (me 10 a)]) ∧ w' = w := by
  go_enter Try.func17, Try.ntmps17
  go_wp2
  all_goals
    go_ret2
    exact ⟨ret_i64e (by simp [mv]) (by simp [me]), rfl⟩

set_option maxRecDepth 100000 in
set_option maxHeartbeats 400000 in
theorem wordMonad_11 (a : Int) (w : World) : Calls Try.prog 17 #[.int .u8 11, .int .i64 a] w fun e w' => e = .returned (.tuple #[.int .i64 (mv 11 a), .int .i64 (me 11 a)]) ∧ w' = w := by
  go_enter Try.func17, Try.ntmps17
  go_wp2
  all_goals
    go_ret2
    exact ⟨ret_i64e (by simp [mv]) (by simp [me]), rfl⟩

set_option maxRecDepth 100000 in
set_option maxHeartbeats 400000 in
theorem wordMonad_12 (a : Int) (w : World) : Calls Try.prog 17 #[.int .u8 12, .int .i64 a] w fun e w' => e = .returned (.tuple #[.int .i64 (mv 12 a), .int .i64 (me 12 a)]) ∧ w' = w := by
  go_enter Try.func17, Try.ntmps17
  go_wp2
  all_goals
    go_ret2
    exact ⟨ret_i64e (by simp [mv]) (by simp [me]), rfl⟩

set_option maxRecDepth 100000 in
set_option maxHeartbeats 400000 in
theorem wordMonad_13 (a : Int) (w : World) : Calls Try.prog 17 #[.int .u8 13, .int .i64 a] w fun e w' => e = .returned (.tuple #[.int .i64 (mv 13 a), .int .i64 (me 13 a)]) ∧ w' = w := by
  go_enter Try.func17, Try.ntmps17
  go_wp2
  all_goals
    go_ret2
    exact ⟨ret_i64e (by simp [mv]) (by simp [me]), rfl⟩

set_option maxRecDepth 100000 in
set_option maxHeartbeats 400000 in
theorem wordMonad_14 (a : Int) (w : World) : Calls Try.prog 17 #[.int .u8 14, .int .i64 a] w fun e w' => e = .returned (.tuple #[.int .i64 (mv 14 a), .int .i64 (me 14 a)]) ∧ w' = w := by
  go_enter Try.func17, Try.ntmps17
  go_wp2
  all_goals
    go_ret2
    exact ⟨ret_i64e (by simp [mv]) (by simp [me]), rfl⟩

set_option maxRecDepth 100000 in
set_option maxHeartbeats 400000 in
theorem wordMonad_15 (a : Int) (w : World) : Calls Try.prog 17 #[.int .u8 15, .int .i64 a] w fun e w' => e = .returned (.tuple #[.int .i64 (mv 15 a), .int .i64 (me 15 a)]) ∧ w' = w := by
  go_enter Try.func17, Try.ntmps17
  go_wp2
  all_goals
    go_ret2
    exact ⟨ret_i64e (by simp [mv]) (by simp [me]), rfl⟩

set_option maxRecDepth 100000 in
set_option maxHeartbeats 400000 in
theorem wordMonad_17 (a : Int) (w : World) : Calls Try.prog 17 #[.int .u8 17, .int .i64 a] w fun e w' => e = .returned (.tuple #[.int .i64 (mv 17 a), .int .i64 (me 17 a)]) ∧ w' = w := by
  go_enter Try.func17, Try.ntmps17
  go_wp2
  all_goals
    go_ret2
    exact ⟨ret_i64e (by simp [mv]) (by simp [me]), rfl⟩

set_option maxRecDepth 100000 in
set_option maxHeartbeats 400000 in
theorem wordMonad_1 (a : Int) (w : World) : Calls Try.prog 17 #[.int .u8 1, .int .i64 a] w fun e w' => e = .returned (.tuple #[.int .i64 (mv 1 a), .int .i64 (me 1 a)]) ∧ w' = w := by
  go_enter Try.func17, Try.ntmps17
  go_wp2
  all_goals
    go_ret2
    exact ⟨ret_i64e (by simp [mv]) (by simp [me]), rfl⟩

set_option maxRecDepth 100000 in
set_option maxHeartbeats 400000 in
theorem wordMonad_2 (a : Int) (w : World) : Calls Try.prog 17 #[.int .u8 2, .int .i64 a] w fun e w' => e = .returned (.tuple #[.int .i64 (mv 2 a), .int .i64 (me 2 a)]) ∧ w' = w := by
  go_enter Try.func17, Try.ntmps17
  go_wp2
  all_goals
    go_ret2
    exact ⟨ret_i64e (by simp [mv]) (by simp [me]), rfl⟩

set_option maxRecDepth 100000 in
set_option maxHeartbeats 400000 in
theorem wordMonad_6 (a : Int) (w : World) : Calls Try.prog 17 #[.int .u8 6, .int .i64 a] w fun e w' => e = .returned (.tuple #[.int .i64 (mv 6 a), .int .i64 (me 6 a)]) ∧ w' = w := by
  go_enter Try.func17, Try.ntmps17
  go_wp2
  all_goals
    go_ret2
    exact ⟨ret_i64e (by simp [mv]) (by simp [me]), rfl⟩

set_option maxRecDepth 100000 in
set_option maxHeartbeats 400000 in
theorem wordMonad_7 (a : Int) (w : World) : Calls Try.prog 17 #[.int .u8 7, .int .i64 a] w fun e w' => e = .returned (.tuple #[.int .i64 (mv 7 a), .int .i64 (me 7 a)]) ∧ w' = w := by
  go_enter Try.func17, Try.ntmps17
  go_wp2
  all_goals
    go_ret2
    exact ⟨ret_i64e (by simp [mv]) (by simp [me]), rfl⟩

set_option maxRecDepth 100000 in
set_option maxHeartbeats 400000 in
theorem wordMonad_3 (a : Int) (w : World) : Calls Try.prog 17 #[.int .u8 3, .int .i64 a] w fun e w' => e = .returned (.tuple #[.int .i64 (mv 3 a), .int .i64 (me 3 a)]) ∧ w' = w := by
  go_enter Try.func17, Try.ntmps17
  go_wp2_with (go_at_call 28; refine (number_any _ _).mono ?_; rintro e w' ⟨rfl, rfl⟩)
  all_goals
    go_ret2
    exact ⟨ret_i64e (by simp [mv]) (by simp [me]), rfl⟩

set_option maxRecDepth 100000 in
set_option maxHeartbeats 400000 in
theorem wordMonad_4z  (w : World) : Calls Try.prog 17 #[.int .u8 4, .int .i64 0] w fun e w' => e = .returned (.tuple #[.int .i64 (mv 4 0), .int .i64 (me 4 0)]) ∧ w' = w := by
  go_enter Try.func17, Try.ntmps17
  go_wp2_with (go_at_call 26; refine (divide_0 _ _).mono ?_; rintro e w' ⟨rfl, rfl⟩)
  go_ret2
  exact ⟨ret_i64e (by simp [mv, dv]) (by simp [me, de]), rfl⟩

set_option maxRecDepth 100000 in
set_option maxHeartbeats 400000 in
theorem wordMonad_4n (a : Int) (h : ¬ a = 0) (w : World) : Calls Try.prog 17 #[.int .u8 4, .int .i64 a] w fun e w' => e = .returned (.tuple #[.int .i64 (mv 4 a), .int .i64 (me 4 a)]) ∧ w' = w := by
  go_enter Try.func17, Try.ntmps17
  go_wp2_with (go_at_call 26; refine (divide_n _ _ h _).mono ?_; rintro e w' ⟨rfl, rfl⟩)
  go_ret2
  exact ⟨ret_i64e (by simp [mv, dv, h]) (by simp [me, de, h]), rfl⟩

theorem wordMonad_4 (a : Int) (w : World) : Calls Try.prog 17 #[.int .u8 4, .int .i64 a] w fun e w' => e = .returned (.tuple #[.int .i64 (mv 4 a), .int .i64 (me 4 a)]) ∧ w' = w := by
  by_cases h : a = 0
  · subst h; exact wordMonad_4z w
  · exact wordMonad_4n a h w
set_option maxRecDepth 100000 in
set_option maxHeartbeats 400000 in
theorem wordMonad_5 (a : Int) (w : World) : Calls Try.prog 17 #[.int .u8 5, .int .i64 a] w fun e w' => e = .returned (.tuple #[.int .i64 (mv 5 a), .int .i64 (me 5 a)]) ∧ w' = w := by
  go_enter Try.func17, Try.ntmps17
  go_wp2_with (go_at_call 37; refine (size_any _ _).mono ?_; rintro e w' ⟨rfl, rfl⟩)
  all_goals
    go_ret2
    exact ⟨ret_i64e (by simp [mv]) (by simp [me]), rfl⟩

set_option maxRecDepth 100000 in
set_option maxHeartbeats 400000 in
theorem wordMonad_16t (a : Int) (h : truthB a = true) (w : World) : Calls Try.prog 17 #[.int .u8 16, .int .i64 a] w fun e w' => e = .returned (.tuple #[.int .i64 (mv 16 a), .int .i64 (me 16 a)]) ∧ w' = w := by
  go_enter Try.func17, Try.ntmps17
  go_wp2_with (go_at_call 38; refine (truth_any _ _).mono ?_; rintro e w' ⟨rfl, rfl⟩)
  go_ret2
  exact ⟨ret_i64e (by simp [mv, h]) (by simp [me, h]), rfl⟩

set_option maxRecDepth 100000 in
set_option maxHeartbeats 400000 in
theorem wordMonad_16f (a : Int) (h : truthB a = false) (w : World) : Calls Try.prog 17 #[.int .u8 16, .int .i64 a] w fun e w' => e = .returned (.tuple #[.int .i64 (mv 16 a), .int .i64 (me 16 a)]) ∧ w' = w := by
  go_enter Try.func17, Try.ntmps17
  go_wp2_with (go_at_call 38; refine (truth_any _ _).mono ?_; rintro e w' ⟨rfl, rfl⟩)
  go_ret2
  exact ⟨ret_i64e (by simp [mv, h]) (by simp [me, h]), rfl⟩

theorem wordMonad_16 (a : Int) (w : World) : Calls Try.prog 17 #[.int .u8 16, .int .i64 a] w fun e w' => e = .returned (.tuple #[.int .i64 (mv 16 a), .int .i64 (me 16 a)]) ∧ w' = w := by
  cases h : truthB a
  · exact wordMonad_16f a h w
  · exact wordMonad_16t a h w
set_option maxRecDepth 100000 in
set_option maxHeartbeats 400000 in
theorem wordMonad_hi (f a : Int) (h : 18 ≤ f) (w : World) : Calls Try.prog 17 #[.int .u8 f, .int .i64 a] w fun e w' => e = .returned (.tuple #[.int .i64 (mv f a), .int .i64 (me f a)]) ∧ w' = w := by
  have n1 : (f == 1) = false := by simp; omega
  have n2 : (f == 2) = false := by simp; omega
  have n3 : (f == 3) = false := by simp; omega
  have n4 : (f == 4) = false := by simp; omega
  have n5 : (f == 5) = false := by simp; omega
  have n6 : (f == 6) = false := by simp; omega
  have n7 : (f == 7) = false := by simp; omega
  have n8 : (f == 8) = false := by simp; omega
  have n9 : (f == 9) = false := by simp; omega
  have n10 : (f == 10) = false := by simp; omega
  have n11 : (f == 11) = false := by simp; omega
  have n12 : (f == 12) = false := by simp; omega
  have n13 : (f == 13) = false := by simp; omega
  have n14 : (f == 14) = false := by simp; omega
  have n15 : (f == 15) = false := by simp; omega
  have n16 : (f == 16) = false := by simp; omega
  have n17 : (f == 17) = false := by simp; omega
  go_enter Try.func17, Try.ntmps17
  go_wp2
  go_ret2
  exact ⟨ret_i64e (mv_hi f a h).symm (me_hi f a h).symm, rfl⟩

theorem wordMonad_any (f a : Int) (hf : 0 ≤ f) (w : World) : Calls Try.prog 17 #[.int .u8 f, .int .i64 a] w fun e w' => e = .returned (.tuple #[.int .i64 (mv f a), .int .i64 (me f a)]) ∧ w' = w := by
  rcases (by omega : f = 0 ∨ f = 1 ∨ f = 2 ∨ f = 3 ∨ f = 4 ∨ f = 5 ∨ f = 6 ∨ f = 7 ∨ f = 8 ∨ f = 9 ∨ f = 10 ∨ f = 11 ∨ f = 12 ∨ f = 13 ∨ f = 14 ∨ f = 15 ∨ f = 16 ∨ f = 17 ∨ 18 ≤ f) with rfl | rfl | rfl | rfl | rfl | rfl | rfl | rfl | rfl | rfl | rfl | rfl | rfl | rfl | rfl | rfl | rfl | rfl | h
  · exact wordMonad_0 a w
  · exact wordMonad_1 a w
  · exact wordMonad_2 a w
  · exact wordMonad_3 a w
  · exact wordMonad_4 a w
  · exact wordMonad_5 a w
  · exact wordMonad_6 a w
  · exact wordMonad_7 a w
  · exact wordMonad_8 a w
  · exact wordMonad_9 a w
  · exact wordMonad_10 a w
  · exact wordMonad_11 a w
  · exact wordMonad_12 a w
  · exact wordMonad_13 a w
  · exact wordMonad_14 a w
  · exact wordMonad_15 a w
  · exact wordMonad_16 a w
  · exact wordMonad_17 a w
  · exact wordMonad_hi f a h w
set_option maxRecDepth 100000 in
set_option maxHeartbeats 400000 in
theorem refMonad_0 (a : Int) (w : World) : Calls Try.prog 18 #[.int .u8 0, .int .i64 a] w fun e w' => e = .returned (.tuple #[.int .i64 (mv 0 a), .int .i64 (me 0 a)]) ∧ w' = w := by
  go_enter Try.func18, Try.ntmps18
  go_wp2_with (go_at_call 16; refine (refTakes1_0 _).mono ?_; rintro e w' ⟨rfl, rfl⟩)
  all_goals
    go_ret2
    exact ⟨ret_i64e (by simp [mv]) (by simp [me]), rfl⟩

set_option maxRecDepth 100000 in
set_option maxHeartbeats 400000 in
theorem refMonad_8 (a : Int) (w : World) : Calls Try.prog 18 #[.int .u8 8, .int .i64 a] w fun e w' => e = .returned (.tuple #[.int .i64 (mv 8 a), .int .i64 (me 8 a)]) ∧ w' = w := by
  go_enter Try.func18, Try.ntmps18
  go_wp2_with (go_at_call 16; refine (refTakes1_8 _).mono ?_; rintro e w' ⟨rfl, rfl⟩)
  all_goals
    go_ret2
    exact ⟨ret_i64e (by simp [mv]) (by simp [me]), rfl⟩

set_option maxRecDepth 100000 in
set_option maxHeartbeats 400000 in
theorem refMonad_9 (a : Int) (w : World) : Calls Try.prog 18 #[.int .u8 9, .int .i64 a] w fun e w' => e = .returned (.tuple #[.int .i64 (mv 9 a), .int .i64 (me 9 a)]) ∧ w' = w := by
  go_enter Try.func18, Try.ntmps18
  go_wp2_with (go_at_call 16; refine (refTakes1_9 _).mono ?_; rintro e w' ⟨rfl, rfl⟩)
  all_goals
    go_ret2
    exact ⟨ret_i64e (by simp [mv]) (by simp [me]), rfl⟩

set_option maxRecDepth 100000 in
set_option maxHeartbeats 400000 in
theorem refMonad_10 (a : Int) (w : World) : Calls Try.prog 18 #[.int .u8 10, .int .i64 a] w fun e w' => e = .returned (.tuple #[.int .i64 (mv 10 a), .int .i64 (me 10 a)]) ∧ w' = w := by
  go_enter Try.func18, Try.ntmps18
  go_wp2_with (go_at_call 16; refine (refTakes1_10 _).mono ?_; rintro e w' ⟨rfl, rfl⟩)
  all_goals
    go_ret2
    exact ⟨ret_i64e (by simp [mv]) (by simp [me]), rfl⟩

set_option maxRecDepth 100000 in
set_option maxHeartbeats 400000 in
theorem refMonad_11 (a : Int) (w : World) : Calls Try.prog 18 #[.int .u8 11, .int .i64 a] w fun e w' => e = .returned (.tuple #[.int .i64 (mv 11 a), .int .i64 (me 11 a)]) ∧ w' = w := by
  go_enter Try.func18, Try.ntmps18
  go_wp2_with (go_at_call 16; refine (refTakes1_11 _).mono ?_; rintro e w' ⟨rfl, rfl⟩)
  all_goals
    go_ret2
    exact ⟨ret_i64e (by simp [mv]) (by simp [me]), rfl⟩

set_option maxRecDepth 100000 in
set_option maxHeartbeats 400000 in
theorem refMonad_12 (a : Int) (w : World) : Calls Try.prog 18 #[.int .u8 12, .int .i64 a] w fun e w' => e = .returned (.tuple #[.int .i64 (mv 12 a), .int .i64 (me 12 a)]) ∧ w' = w := by
  go_enter Try.func18, Try.ntmps18
  go_wp2_with (go_at_call 16; refine (refTakes1_12 _).mono ?_; rintro e w' ⟨rfl, rfl⟩)
  all_goals
    go_ret2
    exact ⟨ret_i64e (by simp [mv]) (by simp [me]), rfl⟩

set_option maxRecDepth 100000 in
set_option maxHeartbeats 400000 in
theorem refMonad_13 (a : Int) (w : World) : Calls Try.prog 18 #[.int .u8 13, .int .i64 a] w fun e w' => e = .returned (.tuple #[.int .i64 (mv 13 a), .int .i64 (me 13 a)]) ∧ w' = w := by
  go_enter Try.func18, Try.ntmps18
  go_wp2_with (go_at_call 16; refine (refTakes1_13 _).mono ?_; rintro e w' ⟨rfl, rfl⟩)
  all_goals
    go_ret2
    exact ⟨ret_i64e (by simp [mv]) (by simp [me]), rfl⟩

set_option maxRecDepth 100000 in
set_option maxHeartbeats 400000 in
theorem refMonad_14 (a : Int) (w : World) : Calls Try.prog 18 #[.int .u8 14, .int .i64 a] w fun e w' => e = .returned (.tuple #[.int .i64 (mv 14 a), .int .i64 (me 14 a)]) ∧ w' = w := by
  go_enter Try.func18, Try.ntmps18
  go_wp2_with (go_at_call 16; refine (refTakes1_14 _).mono ?_; rintro e w' ⟨rfl, rfl⟩)
  all_goals
    go_ret2
    exact ⟨ret_i64e (by simp [mv]) (by simp [me]), rfl⟩

set_option maxRecDepth 100000 in
set_option maxHeartbeats 400000 in
theorem refMonad_15 (a : Int) (w : World) : Calls Try.prog 18 #[.int .u8 15, .int .i64 a] w fun e w' => e = .returned (.tuple #[.int .i64 (mv 15 a), .int .i64 (me 15 a)]) ∧ w' = w := by
  go_enter Try.func18, Try.ntmps18
  go_wp2_with (go_at_call 16; refine (refTakes1_15 _).mono ?_; rintro e w' ⟨rfl, rfl⟩)
  all_goals
    go_ret2
    exact ⟨ret_i64e (by simp [mv]) (by simp [me]), rfl⟩

set_option maxRecDepth 100000 in
set_option maxHeartbeats 400000 in
theorem refMonad_17 (a : Int) (w : World) : Calls Try.prog 18 #[.int .u8 17, .int .i64 a] w fun e w' => e = .returned (.tuple #[.int .i64 (mv 17 a), .int .i64 (me 17 a)]) ∧ w' = w := by
  go_enter Try.func18, Try.ntmps18
  go_wp2_with (go_at_call 16; refine (refTakes1_17 _).mono ?_; rintro e w' ⟨rfl, rfl⟩)
  all_goals
    go_ret2
    exact ⟨ret_i64e (by simp [mv]) (by simp [me]), rfl⟩

set_option maxRecDepth 100000 in
set_option maxHeartbeats 400000 in
theorem refMonad_1 (a : Int) (w : World) : Calls Try.prog 18 #[.int .u8 1, .int .i64 a] w fun e w' => e = .returned (.tuple #[.int .i64 (mv 1 a), .int .i64 (me 1 a)]) ∧ w' = w := by
  go_enter Try.func18, Try.ntmps18
  go_wp2_with (go_at_call 16; refine (refTakes1_1 _).mono ?_; rintro e w' ⟨rfl, rfl⟩)
  all_goals
    go_ret2
    exact ⟨ret_i64e (by simp [mv]) (by simp [me]), rfl⟩

set_option maxRecDepth 100000 in
set_option maxHeartbeats 400000 in
theorem refMonad_2 (a : Int) (w : World) : Calls Try.prog 18 #[.int .u8 2, .int .i64 a] w fun e w' => e = .returned (.tuple #[.int .i64 (mv 2 a), .int .i64 (me 2 a)]) ∧ w' = w := by
  go_enter Try.func18, Try.ntmps18
  go_wp2_with (go_at_call 16; refine (refTakes1_2 _).mono ?_; rintro e w' ⟨rfl, rfl⟩)
  all_goals
    go_ret2
    exact ⟨ret_i64e (by simp [mv]) (by simp [me]), rfl⟩

set_option maxRecDepth 100000 in
set_option maxHeartbeats 400000 in
theorem refMonad_6 (a : Int) (w : World) : Calls Try.prog 18 #[.int .u8 6, .int .i64 a] w fun e w' => e = .returned (.tuple #[.int .i64 (mv 6 a), .int .i64 (me 6 a)]) ∧ w' = w := by
  go_enter Try.func18, Try.ntmps18
  go_wp2_with (go_at_call 16; refine (refTakes1_6 _).mono ?_; rintro e w' ⟨rfl, rfl⟩)
  all_goals
    go_ret2
    exact ⟨ret_i64e (by simp [mv]) (by simp [me]), rfl⟩

set_option maxRecDepth 100000 in
set_option maxHeartbeats 400000 in
theorem refMonad_7 (a : Int) (w : World) : Calls Try.prog 18 #[.int .u8 7, .int .i64 a] w fun e w' => e = .returned (.tuple #[.int .i64 (mv 7 a), .int .i64 (me 7 a)]) ∧ w' = w := by
  go_enter Try.func18, Try.ntmps18
  go_wp2_with (go_at_call 16; refine (refTakes1_7 _).mono ?_; rintro e w' ⟨rfl, rfl⟩)
  all_goals
    go_ret2
    exact ⟨ret_i64e (by simp [mv]) (by simp [me]), rfl⟩

set_option maxRecDepth 100000 in
set_option maxHeartbeats 400000 in
theorem refMonad_3 (a : Int) (w : World) : Calls Try.prog 18 #[.int .u8 3, .int .i64 a] w fun e w' => e = .returned (.tuple #[.int .i64 (mv 3 a), .int .i64 (me 3 a)]) ∧ w' = w := by
  go_enter Try.func18, Try.ntmps18
  go_wp2_with (first | (go_at_call 16; refine (refTakes1_3 _).mono ?_; rintro e w' ⟨rfl, rfl⟩) | (go_at_call 35; refine (bit_any _ _).mono ?_; rintro e w' ⟨rfl, rfl⟩))
  all_goals
    go_ret2
    exact ⟨ret_i64e (by simp [mv]) (by simp [me]), rfl⟩

set_option maxRecDepth 100000 in
set_option maxHeartbeats 400000 in
theorem refDyad_0 (a b : Int) (w : World) : Calls Try.prog 14 #[.int .u8 0, .int .i64 a, .int .i64 b] w fun e w' => e = .returned (.tuple #[.int .i64 (dv 0 a b), .int .i64 (de 0 a b)]) ∧ w' = w := by
  go_enter Try.func14, Try.ntmps14
  go_wp2_with (go_at_call 16; refine (refTakes2_0 _).mono ?_; rintro e w' ⟨rfl, rfl⟩)
  all_goals
    go_ret2
    exact ⟨ret_i64e (by simp [dv] <;> omega) (by simp [de]), rfl⟩

set_option maxRecDepth 100000 in
set_option maxHeartbeats 400000 in
theorem refDyad_1 (a b : Int) (w : World) : Calls Try.prog 14 #[.int .u8 1, .int .i64 a, .int .i64 b] w fun e w' => e = .returned (.tuple #[.int .i64 (dv 1 a b), .int .i64 (de 1 a b)]) ∧ w' = w := by
  go_enter Try.func14, Try.ntmps14
  go_wp2_with (go_at_call 16; refine (refTakes2_1 _).mono ?_; rintro e w' ⟨rfl, rfl⟩)
  all_goals
    go_ret2
    exact ⟨ret_i64e (by simp [dv] <;> omega) (by simp [de]), rfl⟩

set_option maxRecDepth 100000 in
set_option maxHeartbeats 400000 in
theorem refDyad_2 (a b : Int) (w : World) : Calls Try.prog 14 #[.int .u8 2, .int .i64 a, .int .i64 b] w fun e w' => e = .returned (.tuple #[.int .i64 (dv 2 a b), .int .i64 (de 2 a b)]) ∧ w' = w := by
  go_enter Try.func14, Try.ntmps14
  go_wp2_with (go_at_call 16; refine (refTakes2_2 _).mono ?_; rintro e w' ⟨rfl, rfl⟩)
  all_goals
    go_ret2
    exact ⟨ret_i64e (by simp [dv] <;> omega) (by simp [de]), rfl⟩

set_option maxRecDepth 100000 in
set_option maxHeartbeats 400000 in
theorem refDyad_3 (a b : Int) (w : World) : Calls Try.prog 14 #[.int .u8 3, .int .i64 a, .int .i64 b] w fun e w' => e = .returned (.tuple #[.int .i64 (dv 3 a b), .int .i64 (de 3 a b)]) ∧ w' = w := by
  go_enter Try.func14, Try.ntmps14
  go_wp2_with (go_at_call 16; refine (refTakes2_3 _).mono ?_; rintro e w' ⟨rfl, rfl⟩)
  all_goals
    go_ret2
    exact ⟨ret_i64e (by simp [dv] <;> omega) (by simp [de]), rfl⟩

set_option maxRecDepth 100000 in
set_option maxHeartbeats 400000 in
theorem refDyad_6 (a b : Int) (w : World) : Calls Try.prog 14 #[.int .u8 6, .int .i64 a, .int .i64 b] w fun e w' => e = .returned (.tuple #[.int .i64 (dv 6 a b), .int .i64 (de 6 a b)]) ∧ w' = w := by
  go_enter Try.func14, Try.ntmps14
  go_wp2_with (go_at_call 16; refine (refTakes2_6 _).mono ?_; rintro e w' ⟨rfl, rfl⟩)
  all_goals
    go_ret2
    exact ⟨ret_i64e (by simp [dv] <;> omega) (by simp [de]), rfl⟩

set_option maxRecDepth 100000 in
set_option maxHeartbeats 400000 in
theorem refDyad_7 (a b : Int) (w : World) : Calls Try.prog 14 #[.int .u8 7, .int .i64 a, .int .i64 b] w fun e w' => e = .returned (.tuple #[.int .i64 (dv 7 a b), .int .i64 (de 7 a b)]) ∧ w' = w := by
  go_enter Try.func14, Try.ntmps14
  go_wp2_with (go_at_call 16; refine (refTakes2_7 _).mono ?_; rintro e w' ⟨rfl, rfl⟩)
  all_goals
    go_ret2
    exact ⟨ret_i64e (by simp [dv] <;> omega) (by simp [de]), rfl⟩

set_option maxRecDepth 100000 in
set_option maxHeartbeats 400000 in
theorem refDyad_16 (a b : Int) (w : World) : Calls Try.prog 14 #[.int .u8 16, .int .i64 a, .int .i64 b] w fun e w' => e = .returned (.tuple #[.int .i64 (dv 16 a b), .int .i64 (de 16 a b)]) ∧ w' = w := by
  go_enter Try.func14, Try.ntmps14
  go_wp2_with (go_at_call 16; refine (refTakes2_16 _).mono ?_; rintro e w' ⟨rfl, rfl⟩)
  all_goals
    go_ret2
    exact ⟨ret_i64e (by simp [dv] <;> omega) (by simp [de]), rfl⟩

set_option maxRecDepth 100000 in
set_option maxHeartbeats 400000 in
theorem refDyad_4z (a : Int) (w : World) : Calls Try.prog 14 #[.int .u8 4, .int .i64 a, .int .i64 0] w fun e w' => e = .returned (.tuple #[.int .i64 (dv 4 a 0), .int .i64 (de 4 a 0)]) ∧ w' = w := by
  go_enter Try.func14, Try.ntmps14
  go_wp2_with (go_at_call 16; refine (refTakes2_4 _).mono ?_; rintro e w' ⟨rfl, rfl⟩)
  go_ret2
  exact ⟨ret_i64e (by simp [dv]) (by simp [de]), rfl⟩

set_option maxRecDepth 100000 in
set_option maxHeartbeats 400000 in
theorem refDyad_4n (a b : Int) (h : ¬ b = 0) (w : World) : Calls Try.prog 14 #[.int .u8 4, .int .i64 a, .int .i64 b] w fun e w' => e = .returned (.tuple #[.int .i64 (dv 4 a b), .int .i64 (de 4 a b)]) ∧ w' = w := by
  have hb : (b == 0) = false := by simpa using h
  go_enter Try.func14, Try.ntmps14
  go_wp2_with (first | (go_at_call 16; refine (refTakes2_4 _).mono ?_; rintro e w' ⟨rfl, rfl⟩) | (go_at_call 33; refine (floor_n _ _ h _).mono ?_; rintro e w' ⟨rfl, rfl⟩))
  go_ret2
  exact ⟨ret_i64e (by simp [dv, h]) (by simp [de, h]), rfl⟩

theorem refDyad_4 (a b : Int) (w : World) : Calls Try.prog 14 #[.int .u8 4, .int .i64 a, .int .i64 b] w fun e w' => e = .returned (.tuple #[.int .i64 (dv 4 a b), .int .i64 (de 4 a b)]) ∧ w' = w := by
  by_cases h : b = 0
  · subst h; exact refDyad_4z a w
  · exact refDyad_4n a b h w
set_option maxRecDepth 100000 in
set_option maxHeartbeats 400000 in
theorem refDyad_5 (a b : Int) (wa : -9223372036854775808 ≤ a ∧ a ≤ 9223372036854775807) (w : World) : Calls Try.prog 14 #[.int .u8 5, .int .i64 a, .int .i64 b] w fun e w' => e = .returned (.tuple #[.int .i64 (dv 5 a b), .int .i64 (de 5 a b)]) ∧ w' = w := by
  have H := Lib.hid wa
  clear wa
  go_enter Try.func14, Try.ntmps14
  go_wp2_with (first | (go_at_call 16; refine (refTakes2_5 _).mono ?_; rintro e w' ⟨rfl, rfl⟩) | (go_at_call 34; refine (refresidue_any _ _ H.out _).mono ?_; rintro e w' ⟨rfl, rfl⟩))
  go_ret2
  exact ⟨ret_i64e (by simp [dv]) (by simp [de]), rfl⟩

set_option maxRecDepth 100000 in
set_option maxHeartbeats 400000 in
theorem refDyad_8 (a b : Int) (w : World) : Calls Try.prog 14 #[.int .u8 8, .int .i64 a, .int .i64 b] w fun e w' => e = .returned (.tuple #[.int .i64 (dv 8 a b), .int .i64 (de 8 a b)]) ∧ w' = w := by
  go_enter Try.func14, Try.ntmps14
  go_wp2_with (first | (go_at_call 16; refine (refTakes2_8 _).mono ?_; rintro e w' ⟨rfl, rfl⟩) | (go_at_call 35; refine (bit_any _ _).mono ?_; rintro e w' ⟨rfl, rfl⟩))
  go_ret2
  exact ⟨ret_i64e (by simp [dv]) (by simp [de]), rfl⟩

set_option maxRecDepth 100000 in
set_option maxHeartbeats 400000 in
theorem refDyad_9 (a b : Int) (w : World) : Calls Try.prog 14 #[.int .u8 9, .int .i64 a, .int .i64 b] w fun e w' => e = .returned (.tuple #[.int .i64 (dv 9 a b), .int .i64 (de 9 a b)]) ∧ w' = w := by
  go_enter Try.func14, Try.ntmps14
  go_wp2_with (first | (go_at_call 16; refine (refTakes2_9 _).mono ?_; rintro e w' ⟨rfl, rfl⟩) | (go_at_call 35; refine (bit_any _ _).mono ?_; rintro e w' ⟨rfl, rfl⟩))
  go_ret2
  exact ⟨ret_i64e (by simp [dv]) (by simp [de]), rfl⟩

set_option maxRecDepth 100000 in
set_option maxHeartbeats 400000 in
theorem refDyad_10 (a b : Int) (w : World) : Calls Try.prog 14 #[.int .u8 10, .int .i64 a, .int .i64 b] w fun e w' => e = .returned (.tuple #[.int .i64 (dv 10 a b), .int .i64 (de 10 a b)]) ∧ w' = w := by
  go_enter Try.func14, Try.ntmps14
  go_wp2_with (first | (go_at_call 16; refine (refTakes2_10 _).mono ?_; rintro e w' ⟨rfl, rfl⟩) | (go_at_call 35; refine (bit_any _ _).mono ?_; rintro e w' ⟨rfl, rfl⟩))
  go_ret2
  exact ⟨ret_i64e (by simp [dv]) (by simp [de]), rfl⟩

set_option maxRecDepth 100000 in
set_option maxHeartbeats 400000 in
theorem refDyad_11 (a b : Int) (w : World) : Calls Try.prog 14 #[.int .u8 11, .int .i64 a, .int .i64 b] w fun e w' => e = .returned (.tuple #[.int .i64 (dv 11 a b), .int .i64 (de 11 a b)]) ∧ w' = w := by
  go_enter Try.func14, Try.ntmps14
  go_wp2_with (first | (go_at_call 16; refine (refTakes2_11 _).mono ?_; rintro e w' ⟨rfl, rfl⟩) | (go_at_call 35; refine (bit_any _ _).mono ?_; rintro e w' ⟨rfl, rfl⟩))
  go_ret2
  exact ⟨ret_i64e (by simp [dv]) (by simp [de]), rfl⟩

set_option maxRecDepth 100000 in
set_option maxHeartbeats 400000 in
theorem refDyad_12 (a b : Int) (w : World) : Calls Try.prog 14 #[.int .u8 12, .int .i64 a, .int .i64 b] w fun e w' => e = .returned (.tuple #[.int .i64 (dv 12 a b), .int .i64 (de 12 a b)]) ∧ w' = w := by
  go_enter Try.func14, Try.ntmps14
  go_wp2_with (first | (go_at_call 16; refine (refTakes2_12 _).mono ?_; rintro e w' ⟨rfl, rfl⟩) | (go_at_call 35; refine (bit_any _ _).mono ?_; rintro e w' ⟨rfl, rfl⟩))
  go_ret2
  exact ⟨ret_i64e (by simp [dv]) (by simp [de]), rfl⟩

set_option maxRecDepth 100000 in
set_option maxHeartbeats 400000 in
theorem refDyad_13 (a b : Int) (w : World) : Calls Try.prog 14 #[.int .u8 13, .int .i64 a, .int .i64 b] w fun e w' => e = .returned (.tuple #[.int .i64 (dv 13 a b), .int .i64 (de 13 a b)]) ∧ w' = w := by
  go_enter Try.func14, Try.ntmps14
  go_wp2_with (first | (go_at_call 16; refine (refTakes2_13 _).mono ?_; rintro e w' ⟨rfl, rfl⟩) | (go_at_call 35; refine (bit_any _ _).mono ?_; rintro e w' ⟨rfl, rfl⟩))
  go_ret2
  exact ⟨ret_i64e (by simp [dv]) (by simp [de]), rfl⟩

set_option maxRecDepth 100000 in
set_option maxHeartbeats 400000 in
theorem refDyad_14no1 (a b : Int) (h : truthB a = false) (w : World) : Calls Try.prog 14 #[.int .u8 14, .int .i64 a, .int .i64 b] w fun e w' => e = .returned (.tuple #[.int .i64 (dv 14 a b), .int .i64 (de 14 a b)]) ∧ w' = w := by
  go_enter Try.func14, Try.ntmps14
  go_wp2_with (first | (go_at_call 16; refine (refTakes2_14 _).mono ?_; rintro e w' ⟨rfl, rfl⟩) | (go_at_call 32; refine (boolean_any _ _).mono ?_; rintro e w' ⟨rfl, rfl⟩))
  go_ret2
  exact ⟨ret_i64e (by simp [dv, h]) (by simp [de, h]), rfl⟩

set_option maxRecDepth 100000 in
set_option maxHeartbeats 400000 in
theorem refDyad_14no2 (a b : Int) (h : truthB a = true) (h2 : truthB b = false) (w : World) : Calls Try.prog 14 #[.int .u8 14, .int .i64 a, .int .i64 b] w fun e w' => e = .returned (.tuple #[.int .i64 (dv 14 a b), .int .i64 (de 14 a b)]) ∧ w' = w := by
  go_enter Try.func14, Try.ntmps14
  go_wp2_with (first | (go_at_call 16; refine (refTakes2_14 _).mono ?_; rintro e w' ⟨rfl, rfl⟩) | (go_at_call 32; refine (boolean_any _ _).mono ?_; rintro e w' ⟨rfl, rfl⟩))
  go_ret2
  exact ⟨ret_i64e (by simp [dv, h, h2]) (by simp [de, h, h2]), rfl⟩

set_option maxRecDepth 100000 in
set_option maxHeartbeats 400000 in
theorem refDyad_14yes (a b : Int) (h : truthB a = true) (h2 : truthB b = true) (w : World) : Calls Try.prog 14 #[.int .u8 14, .int .i64 a, .int .i64 b] w fun e w' => e = .returned (.tuple #[.int .i64 (dv 14 a b), .int .i64 (de 14 a b)]) ∧ w' = w := by
  rcases truth_cases a h with rfl | rfl <;> rcases truth_cases b h2 with rfl | rfl
  all_goals
    go_enter Try.func14, Try.ntmps14
    go_wp2_with (first | (go_at_call 16; refine (refTakes2_14 _).mono ?_; rintro e w' ⟨rfl, rfl⟩) | (go_at_call 32; refine (boolean_any _ _).mono ?_; rintro e w' ⟨rfl, rfl⟩))
    go_ret2
    exact ⟨ret_i64e (by decide) (by decide), rfl⟩

theorem refDyad_14 (a b : Int) (w : World) : Calls Try.prog 14 #[.int .u8 14, .int .i64 a, .int .i64 b] w fun e w' => e = .returned (.tuple #[.int .i64 (dv 14 a b), .int .i64 (de 14 a b)]) ∧ w' = w := by
  cases h : truthB a
  · exact refDyad_14no1 a b h w
  · cases h2 : truthB b
    · exact refDyad_14no2 a b h h2 w
    · exact refDyad_14yes a b h h2 w
set_option maxRecDepth 100000 in
set_option maxHeartbeats 400000 in
theorem refDyad_15no1 (a b : Int) (h : truthB a = false) (w : World) : Calls Try.prog 14 #[.int .u8 15, .int .i64 a, .int .i64 b] w fun e w' => e = .returned (.tuple #[.int .i64 (dv 15 a b), .int .i64 (de 15 a b)]) ∧ w' = w := by
  go_enter Try.func14, Try.ntmps14
  go_wp2_with (first | (go_at_call 16; refine (refTakes2_15 _).mono ?_; rintro e w' ⟨rfl, rfl⟩) | (go_at_call 32; refine (boolean_any _ _).mono ?_; rintro e w' ⟨rfl, rfl⟩))
  go_ret2
  exact ⟨ret_i64e (by simp [dv, h]) (by simp [de, h]), rfl⟩

set_option maxRecDepth 100000 in
set_option maxHeartbeats 400000 in
theorem refDyad_15no2 (a b : Int) (h : truthB a = true) (h2 : truthB b = false) (w : World) : Calls Try.prog 14 #[.int .u8 15, .int .i64 a, .int .i64 b] w fun e w' => e = .returned (.tuple #[.int .i64 (dv 15 a b), .int .i64 (de 15 a b)]) ∧ w' = w := by
  go_enter Try.func14, Try.ntmps14
  go_wp2_with (first | (go_at_call 16; refine (refTakes2_15 _).mono ?_; rintro e w' ⟨rfl, rfl⟩) | (go_at_call 32; refine (boolean_any _ _).mono ?_; rintro e w' ⟨rfl, rfl⟩))
  go_ret2
  exact ⟨ret_i64e (by simp [dv, h, h2]) (by simp [de, h, h2]), rfl⟩

set_option maxRecDepth 100000 in
set_option maxHeartbeats 400000 in
theorem refDyad_15yes (a b : Int) (h : truthB a = true) (h2 : truthB b = true) (w : World) : Calls Try.prog 14 #[.int .u8 15, .int .i64 a, .int .i64 b] w fun e w' => e = .returned (.tuple #[.int .i64 (dv 15 a b), .int .i64 (de 15 a b)]) ∧ w' = w := by
  rcases truth_cases a h with rfl | rfl <;> rcases truth_cases b h2 with rfl | rfl
  all_goals
    go_enter Try.func14, Try.ntmps14
    go_wp2_with (first | (go_at_call 16; refine (refTakes2_15 _).mono ?_; rintro e w' ⟨rfl, rfl⟩) | (go_at_call 32; refine (boolean_any _ _).mono ?_; rintro e w' ⟨rfl, rfl⟩))
    go_ret2
    exact ⟨ret_i64e (by decide) (by decide), rfl⟩

theorem refDyad_15 (a b : Int) (w : World) : Calls Try.prog 14 #[.int .u8 15, .int .i64 a, .int .i64 b] w fun e w' => e = .returned (.tuple #[.int .i64 (dv 15 a b), .int .i64 (de 15 a b)]) ∧ w' = w := by
  cases h : truthB a
  · exact refDyad_15no1 a b h w
  · cases h2 : truthB b
    · exact refDyad_15no2 a b h h2 w
    · exact refDyad_15yes a b h h2 w
set_option maxRecDepth 100000 in
set_option maxHeartbeats 400000 in
theorem refDyad_17n (a b : Int) (h : b < 0) (w : World) : Calls Try.prog 14 #[.int .u8 17, .int .i64 a, .int .i64 b] w fun e w' => e = .returned (.tuple #[.int .i64 (dv 17 a b), .int .i64 (de 17 a b)]) ∧ w' = w := by
  go_enter Try.func14, Try.ntmps14
  go_wp2_with (go_at_call 16; refine (refTakes2_17 _).mono ?_; rintro e w' ⟨rfl, rfl⟩)
  go_ret2
  exact ⟨ret_i64e (by simp [dv, h]) (by simp [de, h]), rfl⟩

set_option maxRecDepth 100000 in
set_option maxHeartbeats 400000 in
theorem refDyad_17y (a b : Int) (h : 0 ≤ b) (h2 : b ≤ 9223372036854775807) (w : World) : Calls Try.prog 14 #[.int .u8 17, .int .i64 a, .int .i64 b] w fun e w' => e = .returned (.tuple #[.int .i64 (dv 17 a b), .int .i64 (de 17 a b)]) ∧ w' = w := by
  go_enter Try.func14, Try.ntmps14
  go_wp2_with (first | (go_at_call 16; refine (refTakes2_17 _).mono ?_; rintro e w' ⟨rfl, rfl⟩) | (go_at_call 36; refine (refpower_any _ _ h h2 _).mono ?_; rintro e w' ⟨rfl, rfl⟩))
  have h3 : ¬ b < 0 := by omega
  go_ret2
  exact ⟨ret_i64e (by simp [dv, h3]) (by simp [de, h3]), rfl⟩

theorem refDyad_17 (a b : Int) (h2 : b ≤ 9223372036854775807) (w : World) : Calls Try.prog 14 #[.int .u8 17, .int .i64 a, .int .i64 b] w fun e w' => e = .returned (.tuple #[.int .i64 (dv 17 a b), .int .i64 (de 17 a b)]) ∧ w' = w := by
  by_cases h : b < 0
  · exact refDyad_17n a b h w
  · exact refDyad_17y a b (by omega) h2 w
set_option maxRecDepth 100000 in
set_option maxHeartbeats 400000 in
theorem refDyad_hi (f a b : Int) (h : 18 ≤ f) (w : World) : Calls Try.prog 14 #[.int .u8 f, .int .i64 a, .int .i64 b] w fun e w' => e = .returned (.tuple #[.int .i64 (dv f a b), .int .i64 (de f a b)]) ∧ w' = w := by
  have hk := tk2_hi f h
  have hh := Lib.hid h
  go_enter Try.func14, Try.ntmps14
  go_wp2_with (go_at_call 16; refine (refTakes2_hi _ hh.out _).mono ?_; rintro e w' ⟨rfl, rfl⟩)
  go_ret2
  exact ⟨ret_i64e (dv_hi f a b h).symm (de_hi f a b h).symm, rfl⟩

/-- The document's function of two numbers, at any kind and any two numbers. -/
theorem refDyad_any (f a b : Int) (hf : 0 ≤ f) (wa : -9223372036854775808 ≤ a ∧ a ≤ 9223372036854775807) (wb : -9223372036854775808 ≤ b ∧ b ≤ 9223372036854775807) (w : World) : Calls Try.prog 14 #[.int .u8 f, .int .i64 a, .int .i64 b] w fun e w' => e = .returned (.tuple #[.int .i64 (dv f a b), .int .i64 (de f a b)]) ∧ w' = w := by
  rcases (by omega : f = 0 ∨ f = 1 ∨ f = 2 ∨ f = 3 ∨ f = 4 ∨ f = 5 ∨ f = 6 ∨ f = 7 ∨ f = 8 ∨ f = 9 ∨ f = 10 ∨ f = 11 ∨ f = 12 ∨ f = 13 ∨ f = 14 ∨ f = 15 ∨ f = 16 ∨ f = 17 ∨ 18 ≤ f) with rfl | rfl | rfl | rfl | rfl | rfl | rfl | rfl | rfl | rfl | rfl | rfl | rfl | rfl | rfl | rfl | rfl | rfl | h
  · exact refDyad_0 a b w
  · exact refDyad_1 a b w
  · exact refDyad_2 a b w
  · exact refDyad_3 a b w
  · exact refDyad_4 a b w
  · exact refDyad_5 a b wa w
  · exact refDyad_6 a b w
  · exact refDyad_7 a b w
  · exact refDyad_8 a b w
  · exact refDyad_9 a b w
  · exact refDyad_10 a b w
  · exact refDyad_11 a b w
  · exact refDyad_12 a b w
  · exact refDyad_13 a b w
  · exact refDyad_14 a b w
  · exact refDyad_15 a b w
  · exact refDyad_16 a b w
  · exact refDyad_17 a b wb.2 w
  · exact refDyad_hi f a b h w
set_option maxRecDepth 100000 in
set_option maxHeartbeats 400000 in
theorem refMonad_4 (a : Int) (w : World) : Calls Try.prog 18 #[.int .u8 4, .int .i64 a] w fun e w' => e = .returned (.tuple #[.int .i64 (mv 4 a), .int .i64 (me 4 a)]) ∧ w' = w := by
  go_enter Try.func18, Try.ntmps18
  go_wp2_with (first | (go_at_call 16; refine (refTakes1_4 _).mono ?_; rintro e w' ⟨rfl, rfl⟩) | (go_at_call 14; refine (refDyad_4 _ _ _).mono ?_; rintro e w' ⟨rfl, rfl⟩))
  all_goals
    go_ret2
    exact ⟨ret_i64e (by simp [mv]) (by simp [me]), rfl⟩

set_option maxRecDepth 100000 in
set_option maxHeartbeats 400000 in
theorem refMonad_5n (a : Int) (h : a < 0) (w : World) : Calls Try.prog 18 #[.int .u8 5, .int .i64 a] w fun e w' => e = .returned (.tuple #[.int .i64 (mv 5 a), .int .i64 (me 5 a)]) ∧ w' = w := by
  go_enter Try.func18, Try.ntmps18
  go_wp2_with (go_at_call 16; refine (refTakes1_5 _).mono ?_; rintro e w' ⟨rfl, rfl⟩)
  go_ret2
  exact ⟨ret_i64e (by simp [mv, sz_neg a h]) (by simp [me]), rfl⟩

set_option maxRecDepth 100000 in
set_option maxHeartbeats 400000 in
theorem refMonad_5p (a : Int) (h : ¬ a < 0) (w : World) : Calls Try.prog 18 #[.int .u8 5, .int .i64 a] w fun e w' => e = .returned (.tuple #[.int .i64 (mv 5 a), .int .i64 (me 5 a)]) ∧ w' = w := by
  have hs := Lib.hid (sz_pos a h)
  go_enter Try.func18, Try.ntmps18
  go_wp2_with (go_at_call 16; refine (refTakes1_5 _).mono ?_; rintro e w' ⟨rfl, rfl⟩)
  go_ret2
  exact ⟨ret_i64e (by simp [mv, hs.out]) (by simp [me]), rfl⟩

theorem refMonad_5 (a : Int) (w : World) : Calls Try.prog 18 #[.int .u8 5, .int .i64 a] w fun e w' => e = .returned (.tuple #[.int .i64 (mv 5 a), .int .i64 (me 5 a)]) ∧ w' = w := by
  by_cases h : a < 0
  · exact refMonad_5n a h w
  · exact refMonad_5p a h w
set_option maxRecDepth 100000 in
set_option maxHeartbeats 400000 in
theorem refMonad_16t (a : Int) (h : truthB a = true) (w : World) : Calls Try.prog 18 #[.int .u8 16, .int .i64 a] w fun e w' => e = .returned (.tuple #[.int .i64 (mv 16 a), .int .i64 (me 16 a)]) ∧ w' = w := by
  go_enter Try.func18, Try.ntmps18
  go_wp2_with (first | (go_at_call 16; refine (refTakes1_16 _).mono ?_; rintro e w' ⟨rfl, rfl⟩) | (go_at_call 32; refine (boolean_any _ _).mono ?_; rintro e w' ⟨rfl, rfl⟩))
  go_ret2
  exact ⟨ret_i64e (by simp [mv, h]) (by simp [me, h]), rfl⟩

set_option maxRecDepth 100000 in
set_option maxHeartbeats 400000 in
theorem refMonad_16f (a : Int) (h : truthB a = false) (w : World) : Calls Try.prog 18 #[.int .u8 16, .int .i64 a] w fun e w' => e = .returned (.tuple #[.int .i64 (mv 16 a), .int .i64 (me 16 a)]) ∧ w' = w := by
  go_enter Try.func18, Try.ntmps18
  go_wp2_with (first | (go_at_call 16; refine (refTakes1_16 _).mono ?_; rintro e w' ⟨rfl, rfl⟩) | (go_at_call 32; refine (boolean_any _ _).mono ?_; rintro e w' ⟨rfl, rfl⟩))
  go_ret2
  exact ⟨ret_i64e (by simp [mv, h]) (by simp [me, h]), rfl⟩

theorem refMonad_16 (a : Int) (w : World) : Calls Try.prog 18 #[.int .u8 16, .int .i64 a] w fun e w' => e = .returned (.tuple #[.int .i64 (mv 16 a), .int .i64 (me 16 a)]) ∧ w' = w := by
  cases h : truthB a
  · exact refMonad_16f a h w
  · exact refMonad_16t a h w
set_option maxRecDepth 100000 in
set_option maxHeartbeats 400000 in
theorem refMonad_hi (f a : Int) (h : 18 ≤ f) (w : World) : Calls Try.prog 18 #[.int .u8 f, .int .i64 a] w fun e w' => e = .returned (.tuple #[.int .i64 (mv f a), .int .i64 (me f a)]) ∧ w' = w := by
  have hk := tk1_hi f h
  have hh := Lib.hid h
  go_enter Try.func18, Try.ntmps18
  go_wp2_with (go_at_call 16; refine (refTakes1_hi _ hh.out _).mono ?_; rintro e w' ⟨rfl, rfl⟩)
  go_ret2
  exact ⟨ret_i64e (mv_hi f a h).symm (me_hi f a h).symm, rfl⟩

theorem refMonad_any (f a : Int) (hf : 0 ≤ f) (w : World) : Calls Try.prog 18 #[.int .u8 f, .int .i64 a] w fun e w' => e = .returned (.tuple #[.int .i64 (mv f a), .int .i64 (me f a)]) ∧ w' = w := by
  rcases (by omega : f = 0 ∨ f = 1 ∨ f = 2 ∨ f = 3 ∨ f = 4 ∨ f = 5 ∨ f = 6 ∨ f = 7 ∨ f = 8 ∨ f = 9 ∨ f = 10 ∨ f = 11 ∨ f = 12 ∨ f = 13 ∨ f = 14 ∨ f = 15 ∨ f = 16 ∨ f = 17 ∨ 18 ≤ f) with rfl | rfl | rfl | rfl | rfl | rfl | rfl | rfl | rfl | rfl | rfl | rfl | rfl | rfl | rfl | rfl | rfl | rfl | h
  · exact refMonad_0 a w
  · exact refMonad_1 a w
  · exact refMonad_2 a w
  · exact refMonad_3 a w
  · exact refMonad_4 a w
  · exact refMonad_5 a w
  · exact refMonad_6 a w
  · exact refMonad_7 a w
  · exact refMonad_8 a w
  · exact refMonad_9 a w
  · exact refMonad_10 a w
  · exact refMonad_11 a w
  · exact refMonad_12 a w
  · exact refMonad_13 a w
  · exact refMonad_14 a w
  · exact refMonad_15 a w
  · exact refMonad_16 a w
  · exact refMonad_17 a w
  · exact refMonad_hi f a h w
end Go.Proofs.Ytajlpngbnnbblaa
