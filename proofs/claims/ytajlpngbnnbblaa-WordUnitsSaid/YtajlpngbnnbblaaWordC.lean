/- Contracts of Dyad and Monad, of package word and of the document's answers, one a function. Written by gen.py. -/
import Derived.Test.YtajlpngbnnbblaaWordB
namespace Go.Proofs.Ytajlpngbnnbblaa
open Go.RowKit

/-- 1 where both are 1. -/
def andV (a b : Int) : Int := if a = 1 ∧ b = 1 then 1 else 0
def orV (a b : Int) : Int := if a = 1 ∨ b = 1 then 1 else 0
/-- The value and the error of a function of two numbers. -/
def dv (f a b : Int) : Int :=
  if f = 1 then wrap64 (a + b) else if f = 2 then wrap64 (a - b) else if f = 3 then wrap64 (a * b) else
  if f = 4 then (if b = 0 then 0 else qt a b) else if f = 5 then rs a b else if f = 6 then min a b else if f = 7 then max a b else
  if f = 8 then b2i (a == b) else if f = 9 then b2i (a != b) else if f = 10 then b2i (decide (a < b)) else if f = 11 then b2i (decide (a ≤ b)) else
  if f = 12 then b2i (decide (b ≤ a)) else if f = 13 then b2i (decide (b < a)) else
  if f = 14 then (if truthB a = true ∧ truthB b = true then andV a b else 0) else if f = 15 then (if truthB a = true ∧ truthB b = true then orV a b else 0) else
  if f = 17 then (if b < 0 then 0 else pw a b) else 0
def de (f a b : Int) : Int :=
  if f = 4 then (if b = 0 then 11 else 0) else
  if f = 14 ∨ f = 15 then (if truthB a = true ∧ truthB b = true then 0 else 11) else
  if f = 17 then (if b < 0 then 11 else 0) else
  if 1 ≤ f ∧ f ≤ 13 then 0 else 10
/-- Is it a function of two numbers? -/
def tk2 (f : Int) : Bool := decide ((1 ≤ f ∧ f ≤ 15) ∨ f = 17)
def tk1 (f : Int) : Bool := decide ((1 ≤ f ∧ f ≤ 7) ∨ f = 16)

theorem dv_hi (f a b : Int) (h : 18 ≤ f) : dv f a b = 0 := by
  unfold dv; repeat (rw [if_neg (by omega)])
theorem de_hi (f a b : Int) (h : 18 ≤ f) : de f a b = 10 := by
  unfold de; repeat (rw [if_neg (by omega)])
theorem truth_cases (a : Int) (h : truthB a = true) : a = 0 ∨ a = 1 := by
  simpa [truthB] using h
theorem ret_i64e {a b c d : Int} (h : a = b) (h' : c = d) : Ending.returned (.tuple #[.int .i64 a, .int .i64 c]) = .returned (.tuple #[.int .i64 b, .int .i64 d]) := by rw [h, h']

set_option maxHeartbeats 400000 in
theorem holds_8 (a b : Int) (w : World) : Calls Try.prog 29 #[.int .u8 8, .int .i64 a, .int .i64 b] w fun e w' => e = .returned (.bool (a == b)) ∧ w' = w := by
  go_enter Try.func29, Try.ntmps29
  go_wp2
  go_ret
  exact ⟨rfl, rfl⟩
set_option maxHeartbeats 400000 in
theorem holds_9 (a b : Int) (w : World) : Calls Try.prog 29 #[.int .u8 9, .int .i64 a, .int .i64 b] w fun e w' => e = .returned (.bool (a != b)) ∧ w' = w := by
  go_enter Try.func29, Try.ntmps29
  go_wp2
  go_ret
  exact ⟨rfl, rfl⟩
set_option maxHeartbeats 400000 in
theorem holds_10 (a b : Int) (w : World) : Calls Try.prog 29 #[.int .u8 10, .int .i64 a, .int .i64 b] w fun e w' => e = .returned (.bool (decide (a < b))) ∧ w' = w := by
  go_enter Try.func29, Try.ntmps29
  go_wp2
  go_ret
  exact ⟨rfl, rfl⟩
set_option maxHeartbeats 400000 in
theorem holds_11 (a b : Int) (w : World) : Calls Try.prog 29 #[.int .u8 11, .int .i64 a, .int .i64 b] w fun e w' => e = .returned (.bool (decide (a ≤ b))) ∧ w' = w := by
  go_enter Try.func29, Try.ntmps29
  go_wp2
  go_ret
  exact ⟨rfl, rfl⟩
set_option maxHeartbeats 400000 in
theorem holds_12 (a b : Int) (w : World) : Calls Try.prog 29 #[.int .u8 12, .int .i64 a, .int .i64 b] w fun e w' => e = .returned (.bool (decide (b ≤ a))) ∧ w' = w := by
  go_enter Try.func29, Try.ntmps29
  go_wp2
  go_ret
  exact ⟨rfl, rfl⟩
set_option maxHeartbeats 400000 in
theorem holds_13 (a b : Int) (w : World) : Calls Try.prog 29 #[.int .u8 13, .int .i64 a, .int .i64 b] w fun e w' => e = .returned (.bool (decide (b < a))) ∧ w' = w := by
  go_enter Try.func29, Try.ntmps29
  go_wp2
  go_ret
  exact ⟨rfl, rfl⟩
set_option maxHeartbeats 400000 in
theorem join_14_no1 (a b : Int) (h : truthB a = false) (w : World) : Calls Try.prog 30 #[.int .u8 14, .int .i64 a, .int .i64 b] w fun e w' => e = .returned (.tuple #[.int .i64 0, .int .i64 11]) ∧ w' = w := by
  go_enter Try.func30, Try.ntmps30
  go_wp2_with (go_at_call 38; refine (truth_any _ _).mono ?_; rintro e w' ⟨rfl, rfl⟩)
  go_ret2
  exact ⟨rfl, rfl⟩
set_option maxHeartbeats 400000 in
theorem join_14_no2 (a b : Int) (h : truthB a = true) (h2 : truthB b = false) (w : World) : Calls Try.prog 30 #[.int .u8 14, .int .i64 a, .int .i64 b] w fun e w' => e = .returned (.tuple #[.int .i64 0, .int .i64 11]) ∧ w' = w := by
  go_enter Try.func30, Try.ntmps30
  go_wp2_with (go_at_call 38; refine (truth_any _ _).mono ?_; rintro e w' ⟨rfl, rfl⟩)
  go_ret2
  exact ⟨rfl, rfl⟩
set_option maxHeartbeats 400000 in
theorem join_14_yes (a b : Int) (h : truthB a = true) (h2 : truthB b = true) (w : World) : Calls Try.prog 30 #[.int .u8 14, .int .i64 a, .int .i64 b] w fun e w' => e = .returned (.tuple #[.int .i64 (andV a b), .int .i64 0]) ∧ w' = w := by
  rcases truth_cases a h with rfl | rfl <;> rcases truth_cases b h2 with rfl | rfl
  all_goals
    go_enter Try.func30, Try.ntmps30
    go_wp2_with (go_at_call 38; refine (truth_any _ _).mono ?_; rintro e w' ⟨rfl, rfl⟩)
    go_ret2
    exact ⟨ret_i64o (by decide), rfl⟩

set_option maxHeartbeats 400000 in
theorem join_15_no1 (a b : Int) (h : truthB a = false) (w : World) : Calls Try.prog 30 #[.int .u8 15, .int .i64 a, .int .i64 b] w fun e w' => e = .returned (.tuple #[.int .i64 0, .int .i64 11]) ∧ w' = w := by
  go_enter Try.func30, Try.ntmps30
  go_wp2_with (go_at_call 38; refine (truth_any _ _).mono ?_; rintro e w' ⟨rfl, rfl⟩)
  go_ret2
  exact ⟨rfl, rfl⟩
set_option maxHeartbeats 400000 in
theorem join_15_no2 (a b : Int) (h : truthB a = true) (h2 : truthB b = false) (w : World) : Calls Try.prog 30 #[.int .u8 15, .int .i64 a, .int .i64 b] w fun e w' => e = .returned (.tuple #[.int .i64 0, .int .i64 11]) ∧ w' = w := by
  go_enter Try.func30, Try.ntmps30
  go_wp2_with (go_at_call 38; refine (truth_any _ _).mono ?_; rintro e w' ⟨rfl, rfl⟩)
  go_ret2
  exact ⟨rfl, rfl⟩
set_option maxHeartbeats 400000 in
theorem join_15_yes (a b : Int) (h : truthB a = true) (h2 : truthB b = true) (w : World) : Calls Try.prog 30 #[.int .u8 15, .int .i64 a, .int .i64 b] w fun e w' => e = .returned (.tuple #[.int .i64 (orV a b), .int .i64 0]) ∧ w' = w := by
  rcases truth_cases a h with rfl | rfl <;> rcases truth_cases b h2 with rfl | rfl
  all_goals
    go_enter Try.func30, Try.ntmps30
    go_wp2_with (go_at_call 38; refine (truth_any _ _).mono ?_; rintro e w' ⟨rfl, rfl⟩)
    go_ret2
    exact ⟨ret_i64o (by decide), rfl⟩

set_option maxHeartbeats 400000 in
theorem dyad_1 (a b : Int) (w : World) : Calls Try.prog 13 #[.int .u8 1, .int .i64 a, .int .i64 b] w fun e w' => e = .returned (.tuple #[.int .i64 (dv 1 a b), .int .i64 (de 1 a b)]) ∧ w' = w := by
  go_enter Try.func13, Try.ntmps13
  go_wp2
  all_goals
    go_ret2
    exact ⟨ret_i64e (by simp [dv] <;> omega) (by simp [de]), rfl⟩

set_option maxHeartbeats 400000 in
theorem dyad_2 (a b : Int) (w : World) : Calls Try.prog 13 #[.int .u8 2, .int .i64 a, .int .i64 b] w fun e w' => e = .returned (.tuple #[.int .i64 (dv 2 a b), .int .i64 (de 2 a b)]) ∧ w' = w := by
  go_enter Try.func13, Try.ntmps13
  go_wp2
  all_goals
    go_ret2
    exact ⟨ret_i64e (by simp [dv] <;> omega) (by simp [de]), rfl⟩

set_option maxHeartbeats 400000 in
theorem dyad_3 (a b : Int) (w : World) : Calls Try.prog 13 #[.int .u8 3, .int .i64 a, .int .i64 b] w fun e w' => e = .returned (.tuple #[.int .i64 (dv 3 a b), .int .i64 (de 3 a b)]) ∧ w' = w := by
  go_enter Try.func13, Try.ntmps13
  go_wp2
  all_goals
    go_ret2
    exact ⟨ret_i64e (by simp [dv] <;> omega) (by simp [de]), rfl⟩

set_option maxHeartbeats 400000 in
theorem dyad_6 (a b : Int) (w : World) : Calls Try.prog 13 #[.int .u8 6, .int .i64 a, .int .i64 b] w fun e w' => e = .returned (.tuple #[.int .i64 (dv 6 a b), .int .i64 (de 6 a b)]) ∧ w' = w := by
  go_enter Try.func13, Try.ntmps13
  go_wp2
  all_goals
    go_ret2
    exact ⟨ret_i64e (by simp [dv] <;> omega) (by simp [de]), rfl⟩

set_option maxHeartbeats 400000 in
theorem dyad_7 (a b : Int) (w : World) : Calls Try.prog 13 #[.int .u8 7, .int .i64 a, .int .i64 b] w fun e w' => e = .returned (.tuple #[.int .i64 (dv 7 a b), .int .i64 (de 7 a b)]) ∧ w' = w := by
  go_enter Try.func13, Try.ntmps13
  go_wp2
  all_goals
    go_ret2
    exact ⟨ret_i64e (by simp [dv] <;> omega) (by simp [de]), rfl⟩

set_option maxHeartbeats 400000 in
theorem dyad_16 (a b : Int) (w : World) : Calls Try.prog 13 #[.int .u8 16, .int .i64 a, .int .i64 b] w fun e w' => e = .returned (.tuple #[.int .i64 (dv 16 a b), .int .i64 (de 16 a b)]) ∧ w' = w := by
  go_enter Try.func13, Try.ntmps13
  go_wp2
  all_goals
    go_ret2
    exact ⟨ret_i64e (by simp [dv] <;> omega) (by simp [de]), rfl⟩

set_option maxHeartbeats 400000 in
theorem dyad_0 (a b : Int) (w : World) : Calls Try.prog 13 #[.int .u8 0, .int .i64 a, .int .i64 b] w fun e w' => e = .returned (.tuple #[.int .i64 (dv 0 a b), .int .i64 (de 0 a b)]) ∧ w' = w := by
  go_enter Try.func13, Try.ntmps13
  go_wp2
  all_goals
    go_ret2
    exact ⟨ret_i64e (by simp [dv] <;> omega) (by simp [de]), rfl⟩

set_option maxHeartbeats 400000 in
theorem dyad_4z (a : Int) (w : World) : Calls Try.prog 13 #[.int .u8 4, .int .i64 a, .int .i64 0] w fun e w' => e = .returned (.tuple #[.int .i64 (dv 4 a 0), .int .i64 (de 4 a 0)]) ∧ w' = w := by
  go_enter Try.func13, Try.ntmps13
  go_wp2_with (go_at_call 26; refine (divide_0 _ _).mono ?_; rintro e w' ⟨rfl, rfl⟩)
  go_ret2
  exact ⟨ret_i64e (by simp [dv]) (by simp [de]), rfl⟩

set_option maxHeartbeats 400000 in
theorem dyad_4n (a b : Int) (h : ¬ b = 0) (w : World) : Calls Try.prog 13 #[.int .u8 4, .int .i64 a, .int .i64 b] w fun e w' => e = .returned (.tuple #[.int .i64 (dv 4 a b), .int .i64 (de 4 a b)]) ∧ w' = w := by
  go_enter Try.func13, Try.ntmps13
  go_wp2_with (go_at_call 26; refine (divide_n _ _ h _).mono ?_; rintro e w' ⟨rfl, rfl⟩)
  go_ret2
  exact ⟨ret_i64e (by simp [dv, h]) (by simp [de, h]), rfl⟩

theorem dyad_4 (a b : Int) (w : World) : Calls Try.prog 13 #[.int .u8 4, .int .i64 a, .int .i64 b] w fun e w' => e = .returned (.tuple #[.int .i64 (dv 4 a b), .int .i64 (de 4 a b)]) ∧ w' = w := by
  by_cases h : b = 0
  · subst h; exact dyad_4z a w
  · exact dyad_4n a b h w
set_option maxHeartbeats 400000 in
theorem dyad_5 (a b : Int) (wa : -9223372036854775808 ≤ a ∧ a ≤ 9223372036854775807) (w : World) : Calls Try.prog 13 #[.int .u8 5, .int .i64 a, .int .i64 b] w fun e w' => e = .returned (.tuple #[.int .i64 (dv 5 a b), .int .i64 (de 5 a b)]) ∧ w' = w := by
  have H := Lib.hid wa
  clear wa
  go_enter Try.func13, Try.ntmps13
  go_wp2_with (go_at_call 27; refine (residue_any _ _ H.out _).mono ?_; rintro e w' ⟨rfl, rfl⟩)
  go_ret2
  exact ⟨ret_i64e (by simp [dv]) (by simp [de]), rfl⟩

set_option maxHeartbeats 400000 in
theorem dyad_8 (a b : Int) (w : World) : Calls Try.prog 13 #[.int .u8 8, .int .i64 a, .int .i64 b] w fun e w' => e = .returned (.tuple #[.int .i64 (dv 8 a b), .int .i64 (de 8 a b)]) ∧ w' = w := by
  go_enter Try.func13, Try.ntmps13
  go_wp2_with (first | (go_at_call 29; refine (holds_8 _ _ _).mono ?_; rintro e w' ⟨rfl, rfl⟩) | (go_at_call 28; refine (number_any _ _).mono ?_; rintro e w' ⟨rfl, rfl⟩))
  go_ret2
  exact ⟨ret_i64e (by simp [dv]) (by simp [de]), rfl⟩

set_option maxHeartbeats 400000 in
theorem dyad_9 (a b : Int) (w : World) : Calls Try.prog 13 #[.int .u8 9, .int .i64 a, .int .i64 b] w fun e w' => e = .returned (.tuple #[.int .i64 (dv 9 a b), .int .i64 (de 9 a b)]) ∧ w' = w := by
  go_enter Try.func13, Try.ntmps13
  go_wp2_with (first | (go_at_call 29; refine (holds_9 _ _ _).mono ?_; rintro e w' ⟨rfl, rfl⟩) | (go_at_call 28; refine (number_any _ _).mono ?_; rintro e w' ⟨rfl, rfl⟩))
  go_ret2
  exact ⟨ret_i64e (by simp [dv]) (by simp [de]), rfl⟩

set_option maxHeartbeats 400000 in
theorem dyad_10 (a b : Int) (w : World) : Calls Try.prog 13 #[.int .u8 10, .int .i64 a, .int .i64 b] w fun e w' => e = .returned (.tuple #[.int .i64 (dv 10 a b), .int .i64 (de 10 a b)]) ∧ w' = w := by
  go_enter Try.func13, Try.ntmps13
  go_wp2_with (first | (go_at_call 29; refine (holds_10 _ _ _).mono ?_; rintro e w' ⟨rfl, rfl⟩) | (go_at_call 28; refine (number_any _ _).mono ?_; rintro e w' ⟨rfl, rfl⟩))
  go_ret2
  exact ⟨ret_i64e (by simp [dv]) (by simp [de]), rfl⟩

set_option maxHeartbeats 400000 in
theorem dyad_11 (a b : Int) (w : World) : Calls Try.prog 13 #[.int .u8 11, .int .i64 a, .int .i64 b] w fun e w' => e = .returned (.tuple #[.int .i64 (dv 11 a b), .int .i64 (de 11 a b)]) ∧ w' = w := by
  go_enter Try.func13, Try.ntmps13
  go_wp2_with (first | (go_at_call 29; refine (holds_11 _ _ _).mono ?_; rintro e w' ⟨rfl, rfl⟩) | (go_at_call 28; refine (number_any _ _).mono ?_; rintro e w' ⟨rfl, rfl⟩))
  go_ret2
  exact ⟨ret_i64e (by simp [dv]) (by simp [de]), rfl⟩

set_option maxHeartbeats 400000 in
theorem dyad_12 (a b : Int) (w : World) : Calls Try.prog 13 #[.int .u8 12, .int .i64 a, .int .i64 b] w fun e w' => e = .returned (.tuple #[.int .i64 (dv 12 a b), .int .i64 (de 12 a b)]) ∧ w' = w := by
  go_enter Try.func13, Try.ntmps13
  go_wp2_with (first | (go_at_call 29; refine (holds_12 _ _ _).mono ?_; rintro e w' ⟨rfl, rfl⟩) | (go_at_call 28; refine (number_any _ _).mono ?_; rintro e w' ⟨rfl, rfl⟩))
  go_ret2
  exact ⟨ret_i64e (by simp [dv]) (by simp [de]), rfl⟩

set_option maxHeartbeats 400000 in
theorem dyad_13 (a b : Int) (w : World) : Calls Try.prog 13 #[.int .u8 13, .int .i64 a, .int .i64 b] w fun e w' => e = .returned (.tuple #[.int .i64 (dv 13 a b), .int .i64 (de 13 a b)]) ∧ w' = w := by
  go_enter Try.func13, Try.ntmps13
  go_wp2_with (first | (go_at_call 29; refine (holds_13 _ _ _).mono ?_; rintro e w' ⟨rfl, rfl⟩) | (go_at_call 28; refine (number_any _ _).mono ?_; rintro e w' ⟨rfl, rfl⟩))
  go_ret2
  exact ⟨ret_i64e (by simp [dv]) (by simp [de]), rfl⟩

set_option maxHeartbeats 400000 in
theorem dyad_14no1 (a b : Int) (h : truthB a = false) (w : World) : Calls Try.prog 13 #[.int .u8 14, .int .i64 a, .int .i64 b] w fun e w' => e = .returned (.tuple #[.int .i64 (dv 14 a b), .int .i64 (de 14 a b)]) ∧ w' = w := by
  have H1 := Lib.hid h
  clear h
  go_enter Try.func13, Try.ntmps13
  go_wp2_with (go_at_call 30; refine (join_14_no1 _ _ H1.out _).mono ?_; rintro e w' ⟨rfl, rfl⟩)
  go_ret2
  exact ⟨ret_i64e (by simp [dv, H1.out]) (by simp [de, H1.out]), rfl⟩

set_option maxHeartbeats 400000 in
theorem dyad_14no2 (a b : Int) (h : truthB a = true) (h2 : truthB b = false) (w : World) : Calls Try.prog 13 #[.int .u8 14, .int .i64 a, .int .i64 b] w fun e w' => e = .returned (.tuple #[.int .i64 (dv 14 a b), .int .i64 (de 14 a b)]) ∧ w' = w := by
  have H1 := Lib.hid h
  clear h
  have H2 := Lib.hid h2
  clear h2
  go_enter Try.func13, Try.ntmps13
  go_wp2_with (go_at_call 30; refine (join_14_no2 _ _ H1.out H2.out _).mono ?_; rintro e w' ⟨rfl, rfl⟩)
  go_ret2
  exact ⟨ret_i64e (by simp [dv, H1.out, H2.out]) (by simp [de, H1.out, H2.out]), rfl⟩

set_option maxHeartbeats 400000 in
theorem dyad_14yes (a b : Int) (h : truthB a = true) (h2 : truthB b = true) (w : World) : Calls Try.prog 13 #[.int .u8 14, .int .i64 a, .int .i64 b] w fun e w' => e = .returned (.tuple #[.int .i64 (dv 14 a b), .int .i64 (de 14 a b)]) ∧ w' = w := by
  have H1 := Lib.hid h
  clear h
  have H2 := Lib.hid h2
  clear h2
  go_enter Try.func13, Try.ntmps13
  go_wp2_with (go_at_call 30; refine (join_14_yes _ _ H1.out H2.out _).mono ?_; rintro e w' ⟨rfl, rfl⟩)
  go_ret2
  exact ⟨ret_i64e (by simp [dv, H1.out, H2.out]) (by simp [de, H1.out, H2.out]), rfl⟩

theorem dyad_14 (a b : Int) (w : World) : Calls Try.prog 13 #[.int .u8 14, .int .i64 a, .int .i64 b] w fun e w' => e = .returned (.tuple #[.int .i64 (dv 14 a b), .int .i64 (de 14 a b)]) ∧ w' = w := by
  cases h : truthB a
  · exact dyad_14no1 a b h w
  · cases h2 : truthB b
    · exact dyad_14no2 a b h h2 w
    · exact dyad_14yes a b h h2 w
set_option maxHeartbeats 400000 in
theorem dyad_15no1 (a b : Int) (h : truthB a = false) (w : World) : Calls Try.prog 13 #[.int .u8 15, .int .i64 a, .int .i64 b] w fun e w' => e = .returned (.tuple #[.int .i64 (dv 15 a b), .int .i64 (de 15 a b)]) ∧ w' = w := by
  have H1 := Lib.hid h
  clear h
  go_enter Try.func13, Try.ntmps13
  go_wp2_with (go_at_call 30; refine (join_15_no1 _ _ H1.out _).mono ?_; rintro e w' ⟨rfl, rfl⟩)
  go_ret2
  exact ⟨ret_i64e (by simp [dv, H1.out]) (by simp [de, H1.out]), rfl⟩

set_option maxHeartbeats 400000 in
theorem dyad_15no2 (a b : Int) (h : truthB a = true) (h2 : truthB b = false) (w : World) : Calls Try.prog 13 #[.int .u8 15, .int .i64 a, .int .i64 b] w fun e w' => e = .returned (.tuple #[.int .i64 (dv 15 a b), .int .i64 (de 15 a b)]) ∧ w' = w := by
  have H1 := Lib.hid h
  clear h
  have H2 := Lib.hid h2
  clear h2
  go_enter Try.func13, Try.ntmps13
  go_wp2_with (go_at_call 30; refine (join_15_no2 _ _ H1.out H2.out _).mono ?_; rintro e w' ⟨rfl, rfl⟩)
  go_ret2
  exact ⟨ret_i64e (by simp [dv, H1.out, H2.out]) (by simp [de, H1.out, H2.out]), rfl⟩

set_option maxHeartbeats 400000 in
theorem dyad_15yes (a b : Int) (h : truthB a = true) (h2 : truthB b = true) (w : World) : Calls Try.prog 13 #[.int .u8 15, .int .i64 a, .int .i64 b] w fun e w' => e = .returned (.tuple #[.int .i64 (dv 15 a b), .int .i64 (de 15 a b)]) ∧ w' = w := by
  have H1 := Lib.hid h
  clear h
  have H2 := Lib.hid h2
  clear h2
  go_enter Try.func13, Try.ntmps13
  go_wp2_with (go_at_call 30; refine (join_15_yes _ _ H1.out H2.out _).mono ?_; rintro e w' ⟨rfl, rfl⟩)
  go_ret2
  exact ⟨ret_i64e (by simp [dv, H1.out, H2.out]) (by simp [de, H1.out, H2.out]), rfl⟩

theorem dyad_15 (a b : Int) (w : World) : Calls Try.prog 13 #[.int .u8 15, .int .i64 a, .int .i64 b] w fun e w' => e = .returned (.tuple #[.int .i64 (dv 15 a b), .int .i64 (de 15 a b)]) ∧ w' = w := by
  cases h : truthB a
  · exact dyad_15no1 a b h w
  · cases h2 : truthB b
    · exact dyad_15no2 a b h h2 w
    · exact dyad_15yes a b h h2 w
set_option maxHeartbeats 400000 in
theorem dyad_17n (a b : Int) (h : b < 0) (w : World) : Calls Try.prog 13 #[.int .u8 17, .int .i64 a, .int .i64 b] w fun e w' => e = .returned (.tuple #[.int .i64 (dv 17 a b), .int .i64 (de 17 a b)]) ∧ w' = w := by
  go_enter Try.func13, Try.ntmps13
  go_wp2_with (go_at_call 31; refine (power_neg _ _ h _).mono ?_; rintro e w' ⟨rfl, rfl⟩)
  go_ret2
  exact ⟨ret_i64e (by simp [dv, h]) (by simp [de, h]), rfl⟩

set_option maxHeartbeats 400000 in
theorem dyad_17y (a b : Int) (h : 0 ≤ b) (h2 : b ≤ 9223372036854775807) (w : World) : Calls Try.prog 13 #[.int .u8 17, .int .i64 a, .int .i64 b] w fun e w' => e = .returned (.tuple #[.int .i64 (dv 17 a b), .int .i64 (de 17 a b)]) ∧ w' = w := by
  go_enter Try.func13, Try.ntmps13
  go_wp2_with (go_at_call 31; refine (power_any _ _ h h2 _).mono ?_; rintro e w' ⟨rfl, rfl⟩)
  have h3 : ¬ b < 0 := by omega
  go_ret2
  exact ⟨ret_i64e (by simp [dv, h3]) (by simp [de, h3]), rfl⟩

theorem dyad_17 (a b : Int) (h2 : b ≤ 9223372036854775807) (w : World) : Calls Try.prog 13 #[.int .u8 17, .int .i64 a, .int .i64 b] w fun e w' => e = .returned (.tuple #[.int .i64 (dv 17 a b), .int .i64 (de 17 a b)]) ∧ w' = w := by
  by_cases h : b < 0
  · exact dyad_17n a b h w
  · exact dyad_17y a b (by omega) h2 w
set_option maxHeartbeats 400000 in
theorem dyad_hi (f a b : Int) (h : 18 ≤ f) (w : World) : Calls Try.prog 13 #[.int .u8 f, .int .i64 a, .int .i64 b] w fun e w' => e = .returned (.tuple #[.int .i64 (dv f a b), .int .i64 (de f a b)]) ∧ w' = w := by
  have n1 : (f == 1) = false := by simp; omega
  have n2 : (f == 2) = false := by simp; omega
  have n3 : (f == 3) = false := by simp; omega
  have n4 : (f == 4) = false := by simp; omega
  have n5 : (f == 5) = false := by simp; omega
  have n6 : (f == 6) = false := by simp; omega
  have n7 : (f == 7) = false := by simp; omega
  have n8 : (f == 8) = false := by simp; omega
  have n9 : (f == 9) = false := by simp; omega
  have n10 : (f == 10) = false := by simp; omega
  have n11 : (f == 11) = false := by simp; omega
  have n12 : (f == 12) = false := by simp; omega
  have n13 : (f == 13) = false := by simp; omega
  have n14 : (f == 14) = false := by simp; omega
  have n15 : (f == 15) = false := by simp; omega
  have n16 : (f == 16) = false := by simp; omega
  have n17 : (f == 17) = false := by simp; omega
  go_enter Try.func13, Try.ntmps13
  go_wp2
  go_ret2
  exact ⟨ret_i64e (dv_hi f a b h).symm (de_hi f a b h).symm, rfl⟩

/-- A function of two numbers, at any kind and any two numbers. -/
theorem dyad_any (f a b : Int) (hf : 0 ≤ f) (wa : -9223372036854775808 ≤ a ∧ a ≤ 9223372036854775807) (wb : -9223372036854775808 ≤ b ∧ b ≤ 9223372036854775807) (w : World) : Calls Try.prog 13 #[.int .u8 f, .int .i64 a, .int .i64 b] w fun e w' => e = .returned (.tuple #[.int .i64 (dv f a b), .int .i64 (de f a b)]) ∧ w' = w := by
  rcases (by omega : f = 0 ∨ f = 1 ∨ f = 2 ∨ f = 3 ∨ f = 4 ∨ f = 5 ∨ f = 6 ∨ f = 7 ∨ f = 8 ∨ f = 9 ∨ f = 10 ∨ f = 11 ∨ f = 12 ∨ f = 13 ∨ f = 14 ∨ f = 15 ∨ f = 16 ∨ f = 17 ∨ 18 ≤ f) with rfl | rfl | rfl | rfl | rfl | rfl | rfl | rfl | rfl | rfl | rfl | rfl | rfl | rfl | rfl | rfl | rfl | rfl | h
  · exact dyad_0 a b w
  · exact dyad_1 a b w
  · exact dyad_2 a b w
  · exact dyad_3 a b w
  · exact dyad_4 a b w
  · exact dyad_5 a b wa w
  · exact dyad_6 a b w
  · exact dyad_7 a b w
  · exact dyad_8 a b w
  · exact dyad_9 a b w
  · exact dyad_10 a b w
  · exact dyad_11 a b w
  · exact dyad_12 a b w
  · exact dyad_13 a b w
  · exact dyad_14 a b w
  · exact dyad_15 a b w
  · exact dyad_16 a b w
  · exact dyad_17 a b wb.2 w
  · exact dyad_hi f a b h w
end Go.Proofs.Ytajlpngbnnbblaa
