/- Contracts of Takes, Unit, Scans, Total, Monad, and of the document's Dyad. Written by gen_d.py. -/
import Derived.Test.YtajlpngbnnbblaaWordC
namespace Go.Proofs.Ytajlpngbnnbblaa
open Go.RowKit
def uv (f : Int) : Int := if f = 3 ∨ f = 4 ∨ f = 8 ∨ f = 11 ∨ f = 12 ∨ f = 14 ∨ f = 17 then 1 else if f = 6 then 9223372036854775807 else if f = 7 then -9223372036854775808 else 0
def ub (f : Int) : Bool := decide ((1 ≤ f ∧ f ≤ 15) ∨ f = 17)
def sc (f : Int) : Bool := decide (f = 1 ∨ f = 3 ∨ f = 6 ∨ f = 7 ∨ f = 14 ∨ f = 15)
def tot2 (f : Int) : Bool := decide ((1 ≤ f ∧ f ≤ 3) ∨ (5 ≤ f ∧ f ≤ 13))
def tot1 (f : Int) : Bool := decide ((1 ≤ f ∧ f ≤ 3) ∨ (5 ≤ f ∧ f ≤ 7))
/-- The value and the error of a function of one number. -/
def mv (f a : Int) : Int :=
  if f = 1 ∨ f = 6 ∨ f = 7 then a else if f = 2 then wrap64 (-a) else if f = 3 then wrap64 (b2i (decide (0 < a)) - b2i (decide (a < 0))) else
  if f = 4 then dv 4 1 a else if f = 5 then sz a else if f = 16 then (if truthB a = true then wrap64 (1 - a) else 0) else 0
def me (f a : Int) : Int :=
  if f = 4 then de 4 1 a else if f = 16 then (if truthB a = true then 0 else 11) else if (1 ≤ f ∧ f ≤ 7) then 0 else 10
theorem tk2_hi (f : Int) (h : 18 ≤ f) : tk2 f = false := by
  unfold tk2; exact decide_eq_false (by omega)
theorem tk1_hi (f : Int) (h : 18 ≤ f) : tk1 f = false := by
  unfold tk1; exact decide_eq_false (by omega)
theorem tot2_hi (f : Int) (h : 18 ≤ f) : tot2 f = false := by
  unfold tot2; exact decide_eq_false (by omega)
theorem tot1_hi (f : Int) (h : 18 ≤ f) : tot1 f = false := by
  unfold tot1; exact decide_eq_false (by omega)
theorem ret_b {a b : Bool} (h : a = b) : Ending.returned (.bool a) = .returned (.bool b) := by rw [h]
theorem ret_i64b {a b : Int} {c d : Bool} (h : a = b) (h' : c = d) : Ending.returned (.tuple #[.int .i64 a, .bool c]) = .returned (.tuple #[.int .i64 b, .bool d]) := by rw [h, h']

set_option maxHeartbeats 400000 in
theorem wordTakes2_0  (w : World) : Calls Try.prog 15 #[.int .u8 0, .bool true] w fun e w' => e = .returned (.bool (tk2 0)) ∧ w' = w := by
  go_enter Try.func15, Try.ntmps15
  go_wp2
  all_goals
    go_ret
    exact ⟨ret_b (by simp [tk2]), rfl⟩

set_option maxHeartbeats 400000 in
theorem wordTakes2_1  (w : World) : Calls Try.prog 15 #[.int .u8 1, .bool true] w fun e w' => e = .returned (.bool (tk2 1)) ∧ w' = w := by
  go_enter Try.func15, Try.ntmps15
  go_wp2
  all_goals
    go_ret
    exact ⟨ret_b (by simp [tk2]), rfl⟩

set_option maxHeartbeats 400000 in
theorem wordTakes2_2  (w : World) : Calls Try.prog 15 #[.int .u8 2, .bool true] w fun e w' => e = .returned (.bool (tk2 2)) ∧ w' = w := by
  go_enter Try.func15, Try.ntmps15
  go_wp2
  all_goals
    go_ret
    exact ⟨ret_b (by simp [tk2]), rfl⟩

set_option maxHeartbeats 400000 in
theorem wordTakes2_3  (w : World) : Calls Try.prog 15 #[.int .u8 3, .bool true] w fun e w' => e = .returned (.bool (tk2 3)) ∧ w' = w := by
  go_enter Try.func15, Try.ntmps15
  go_wp2
  all_goals
    go_ret
    exact ⟨ret_b (by simp [tk2]), rfl⟩

set_option maxHeartbeats 400000 in
theorem wordTakes2_4  (w : World) : Calls Try.prog 15 #[.int .u8 4, .bool true] w fun e w' => e = .returned (.bool (tk2 4)) ∧ w' = w := by
  go_enter Try.func15, Try.ntmps15
  go_wp2
  all_goals
    go_ret
    exact ⟨ret_b (by simp [tk2]), rfl⟩

set_option maxHeartbeats 400000 in
theorem wordTakes2_5  (w : World) : Calls Try.prog 15 #[.int .u8 5, .bool true] w fun e w' => e = .returned (.bool (tk2 5)) ∧ w' = w := by
  go_enter Try.func15, Try.ntmps15
  go_wp2
  all_goals
    go_ret
    exact ⟨ret_b (by simp [tk2]), rfl⟩

set_option maxHeartbeats 400000 in
theorem wordTakes2_6  (w : World) : Calls Try.prog 15 #[.int .u8 6, .bool true] w fun e w' => e = .returned (.bool (tk2 6)) ∧ w' = w := by
  go_enter Try.func15, Try.ntmps15
  go_wp2
  all_goals
    go_ret
    exact ⟨ret_b (by simp [tk2]), rfl⟩

set_option maxHeartbeats 400000 in
theorem wordTakes2_7  (w : World) : Calls Try.prog 15 #[.int .u8 7, .bool true] w fun e w' => e = .returned (.bool (tk2 7)) ∧ w' = w := by
  go_enter Try.func15, Try.ntmps15
  go_wp2
  all_goals
    go_ret
    exact ⟨ret_b (by simp [tk2]), rfl⟩

set_option maxHeartbeats 400000 in
theorem wordTakes2_8  (w : World) : Calls Try.prog 15 #[.int .u8 8, .bool true] w fun e w' => e = .returned (.bool (tk2 8)) ∧ w' = w := by
  go_enter Try.func15, Try.ntmps15
  go_wp2
  all_goals
    go_ret
    exact ⟨ret_b (by simp [tk2]), rfl⟩

set_option maxHeartbeats 400000 in
theorem wordTakes2_9  (w : World) : Calls Try.prog 15 #[.int .u8 9, .bool true] w fun e w' => e = .returned (.bool (tk2 9)) ∧ w' = w := by
  go_enter Try.func15, Try.ntmps15
  go_wp2
  all_goals
    go_ret
    exact ⟨ret_b (by simp [tk2]), rfl⟩

set_option maxHeartbeats 400000 in
theorem wordTakes2_10  (w : World) : Calls Try.prog 15 #[.int .u8 10, .bool true] w fun e w' => e = .returned (.bool (tk2 10)) ∧ w' = w := by
  go_enter Try.func15, Try.ntmps15
  go_wp2
  all_goals
    go_ret
    exact ⟨ret_b (by simp [tk2]), rfl⟩

set_option maxHeartbeats 400000 in
theorem wordTakes2_11  (w : World) : Calls Try.prog 15 #[.int .u8 11, .bool true] w fun e w' => e = .returned (.bool (tk2 11)) ∧ w' = w := by
  go_enter Try.func15, Try.ntmps15
  go_wp2
  all_goals
    go_ret
    exact ⟨ret_b (by simp [tk2]), rfl⟩

set_option maxHeartbeats 400000 in
theorem wordTakes2_12  (w : World) : Calls Try.prog 15 #[.int .u8 12, .bool true] w fun e w' => e = .returned (.bool (tk2 12)) ∧ w' = w := by
  go_enter Try.func15, Try.ntmps15
  go_wp2
  all_goals
    go_ret
    exact ⟨ret_b (by simp [tk2]), rfl⟩

set_option maxHeartbeats 400000 in
theorem wordTakes2_13  (w : World) : Calls Try.prog 15 #[.int .u8 13, .bool true] w fun e w' => e = .returned (.bool (tk2 13)) ∧ w' = w := by
  go_enter Try.func15, Try.ntmps15
  go_wp2
  all_goals
    go_ret
    exact ⟨ret_b (by simp [tk2]), rfl⟩

set_option maxHeartbeats 400000 in
theorem wordTakes2_14  (w : World) : Calls Try.prog 15 #[.int .u8 14, .bool true] w fun e w' => e = .returned (.bool (tk2 14)) ∧ w' = w := by
  go_enter Try.func15, Try.ntmps15
  go_wp2
  all_goals
    go_ret
    exact ⟨ret_b (by simp [tk2]), rfl⟩

set_option maxHeartbeats 400000 in
theorem wordTakes2_15  (w : World) : Calls Try.prog 15 #[.int .u8 15, .bool true] w fun e w' => e = .returned (.bool (tk2 15)) ∧ w' = w := by
  go_enter Try.func15, Try.ntmps15
  go_wp2
  all_goals
    go_ret
    exact ⟨ret_b (by simp [tk2]), rfl⟩

set_option maxHeartbeats 400000 in
theorem wordTakes2_16  (w : World) : Calls Try.prog 15 #[.int .u8 16, .bool true] w fun e w' => e = .returned (.bool (tk2 16)) ∧ w' = w := by
  go_enter Try.func15, Try.ntmps15
  go_wp2
  all_goals
    go_ret
    exact ⟨ret_b (by simp [tk2]), rfl⟩

set_option maxHeartbeats 400000 in
theorem wordTakes2_17  (w : World) : Calls Try.prog 15 #[.int .u8 17, .bool true] w fun e w' => e = .returned (.bool (tk2 17)) ∧ w' = w := by
  go_enter Try.func15, Try.ntmps15
  go_wp2
  all_goals
    go_ret
    exact ⟨ret_b (by simp [tk2]), rfl⟩

set_option maxHeartbeats 400000 in
theorem wordTakes2_hi (f : Int) (h : 18 ≤ f)  (w : World) : Calls Try.prog 15 #[.int .u8 f, .bool true] w fun e w' => e = .returned (.bool (tk2 f)) ∧ w' = w := by
  have hh : ¬ f ≤ 17 := by omega
  have hh2 : ¬ f ≤ 7 := by omega
  have n1 : (f == 1) = false := by simp; omega
  have n2 : (f == 2) = false := by simp; omega
  have n3 : (f == 3) = false := by simp; omega
  have n4 : (f == 4) = false := by simp; omega
  have n5 : (f == 5) = false := by simp; omega
  have n6 : (f == 6) = false := by simp; omega
  have n7 : (f == 7) = false := by simp; omega
  have n8 : (f == 8) = false := by simp; omega
  have n9 : (f == 9) = false := by simp; omega
  have n10 : (f == 10) = false := by simp; omega
  have n11 : (f == 11) = false := by simp; omega
  have n12 : (f == 12) = false := by simp; omega
  have n13 : (f == 13) = false := by simp; omega
  have n14 : (f == 14) = false := by simp; omega
  have n15 : (f == 15) = false := by simp; omega
  have n16 : (f == 16) = false := by simp; omega
  have n17 : (f == 17) = false := by simp; omega
  go_enter Try.func15, Try.ntmps15
  go_wp2
  all_goals
    go_ret
    exact ⟨ret_b (by simp [tk2]; omega), rfl⟩

theorem wordTakes2_any (f : Int) (hf : 0 ≤ f)  (w : World) : Calls Try.prog 15 #[.int .u8 f, .bool true] w fun e w' => e = .returned (.bool (tk2 f)) ∧ w' = w := by
  rcases (by omega : f = 0 ∨ f = 1 ∨ f = 2 ∨ f = 3 ∨ f = 4 ∨ f = 5 ∨ f = 6 ∨ f = 7 ∨ f = 8 ∨ f = 9 ∨ f = 10 ∨ f = 11 ∨ f = 12 ∨ f = 13 ∨ f = 14 ∨ f = 15 ∨ f = 16 ∨ f = 17 ∨ 18 ≤ f) with rfl | rfl | rfl | rfl | rfl | rfl | rfl | rfl | rfl | rfl | rfl | rfl | rfl | rfl | rfl | rfl | rfl | rfl | h
  · exact wordTakes2_0  w
  · exact wordTakes2_1  w
  · exact wordTakes2_2  w
  · exact wordTakes2_3  w
  · exact wordTakes2_4  w
  · exact wordTakes2_5  w
  · exact wordTakes2_6  w
  · exact wordTakes2_7  w
  · exact wordTakes2_8  w
  · exact wordTakes2_9  w
  · exact wordTakes2_10  w
  · exact wordTakes2_11  w
  · exact wordTakes2_12  w
  · exact wordTakes2_13  w
  · exact wordTakes2_14  w
  · exact wordTakes2_15  w
  · exact wordTakes2_16  w
  · exact wordTakes2_17  w
  · exact wordTakes2_hi f h  w

set_option maxHeartbeats 400000 in
theorem wordTakes1_0  (w : World) : Calls Try.prog 15 #[.int .u8 0, .bool false] w fun e w' => e = .returned (.bool (tk1 0)) ∧ w' = w := by
  go_enter Try.func15, Try.ntmps15
  go_wp2
  all_goals
    go_ret
    exact ⟨ret_b (by simp [tk1]), rfl⟩

set_option maxHeartbeats 400000 in
theorem wordTakes1_1  (w : World) : Calls Try.prog 15 #[.int .u8 1, .bool false] w fun e w' => e = .returned (.bool (tk1 1)) ∧ w' = w := by
  go_enter Try.func15, Try.ntmps15
  go_wp2
  all_goals
    go_ret
    exact ⟨ret_b (by simp [tk1]), rfl⟩

set_option maxHeartbeats 400000 in
theorem wordTakes1_2  (w : World) : Calls Try.prog 15 #[.int .u8 2, .bool false] w fun e w' => e = .returned (.bool (tk1 2)) ∧ w' = w := by
  go_enter Try.func15, Try.ntmps15
  go_wp2
  all_goals
    go_ret
    exact ⟨ret_b (by simp [tk1]), rfl⟩

set_option maxHeartbeats 400000 in
theorem wordTakes1_3  (w : World) : Calls Try.prog 15 #[.int .u8 3, .bool false] w fun e w' => e = .returned (.bool (tk1 3)) ∧ w' = w := by
  go_enter Try.func15, Try.ntmps15
  go_wp2
  all_goals
    go_ret
    exact ⟨ret_b (by simp [tk1]), rfl⟩

set_option maxHeartbeats 400000 in
theorem wordTakes1_4  (w : World) : Calls Try.prog 15 #[.int .u8 4, .bool false] w fun e w' => e = .returned (.bool (tk1 4)) ∧ w' = w := by
  go_enter Try.func15, Try.ntmps15
  go_wp2
  all_goals
    go_ret
    exact ⟨ret_b (by simp [tk1]), rfl⟩

set_option maxHeartbeats 400000 in
theorem wordTakes1_5  (w : World) : Calls Try.prog 15 #[.int .u8 5, .bool false] w fun e w' => e = .returned (.bool (tk1 5)) ∧ w' = w := by
  go_enter Try.func15, Try.ntmps15
  go_wp2
  all_goals
    go_ret
    exact ⟨ret_b (by simp [tk1]), rfl⟩

set_option maxHeartbeats 400000 in
theorem wordTakes1_6  (w : World) : Calls Try.prog 15 #[.int .u8 6, .bool false] w fun e w' => e = .returned (.bool (tk1 6)) ∧ w' = w := by
  go_enter Try.func15, Try.ntmps15
  go_wp2
  all_goals
    go_ret
    exact ⟨ret_b (by simp [tk1]), rfl⟩

set_option maxHeartbeats 400000 in
theorem wordTakes1_7  (w : World) : Calls Try.prog 15 #[.int .u8 7, .bool false] w fun e w' => e = .returned (.bool (tk1 7)) ∧ w' = w := by
  go_enter Try.func15, Try.ntmps15
  go_wp2
  all_goals
    go_ret
    exact ⟨ret_b (by simp [tk1]), rfl⟩

set_option maxHeartbeats 400000 in
theorem wordTakes1_8  (w : World) : Calls Try.prog 15 #[.int .u8 8, .bool false] w fun e w' => e = .returned (.bool (tk1 8)) ∧ w' = w := by
  go_enter Try.func15, Try.ntmps15
  go_wp2
  all_goals
    go_ret
    exact ⟨ret_b (by simp [tk1]), rfl⟩

set_option maxHeartbeats 400000 in
theorem wordTakes1_9  (w : World) : Calls Try.prog 15 #[.int .u8 9, .bool false] w fun e w' => e = .returned (.bool (tk1 9)) ∧ w' = w := by
  go_enter Try.func15, Try.ntmps15
  go_wp2
  all_goals
    go_ret
    exact ⟨ret_b (by simp [tk1]), rfl⟩

set_option maxHeartbeats 400000 in
theorem wordTakes1_10  (w : World) : Calls Try.prog 15 #[.int .u8 10, .bool false] w fun e w' => e = .returned (.bool (tk1 10)) ∧ w' = w := by
  go_enter Try.func15, Try.ntmps15
  go_wp2
  all_goals
    go_ret
    exact ⟨ret_b (by simp [tk1]), rfl⟩

set_option maxHeartbeats 400000 in
theorem wordTakes1_11  (w : World) : Calls Try.prog 15 #[.int .u8 11, .bool false] w fun e w' => e = .returned (.bool (tk1 11)) ∧ w' = w := by
  go_enter Try.func15, Try.ntmps15
  go_wp2
  all_goals
    go_ret
    exact ⟨ret_b (by simp [tk1]), rfl⟩

set_option maxHeartbeats 400000 in
theorem wordTakes1_12  (w : World) : Calls Try.prog 15 #[.int .u8 12, .bool false] w fun e w' => e = .returned (.bool (tk1 12)) ∧ w' = w := by
  go_enter Try.func15, Try.ntmps15
  go_wp2
  all_goals
    go_ret
    exact ⟨ret_b (by simp [tk1]), rfl⟩

set_option maxHeartbeats 400000 in
theorem wordTakes1_13  (w : World) : Calls Try.prog 15 #[.int .u8 13, .bool false] w fun e w' => e = .returned (.bool (tk1 13)) ∧ w' = w := by
  go_enter Try.func15, Try.ntmps15
  go_wp2
  all_goals
    go_ret
    exact ⟨ret_b (by simp [tk1]), rfl⟩

set_option maxHeartbeats 400000 in
theorem wordTakes1_14  (w : World) : Calls Try.prog 15 #[.int .u8 14, .bool false] w fun e w' => e = .returned (.bool (tk1 14)) ∧ w' = w := by
  go_enter Try.func15, Try.ntmps15
  go_wp2
  all_goals
    go_ret
    exact ⟨ret_b (by simp [tk1]), rfl⟩

set_option maxHeartbeats 400000 in
theorem wordTakes1_15  (w : World) : Calls Try.prog 15 #[.int .u8 15, .bool false] w fun e w' => e = .returned (.bool (tk1 15)) ∧ w' = w := by
  go_enter Try.func15, Try.ntmps15
  go_wp2
  all_goals
    go_ret
    exact ⟨ret_b (by simp [tk1]), rfl⟩

set_option maxHeartbeats 400000 in
theorem wordTakes1_16  (w : World) : Calls Try.prog 15 #[.int .u8 16, .bool false] w fun e w' => e = .returned (.bool (tk1 16)) ∧ w' = w := by
  go_enter Try.func15, Try.ntmps15
  go_wp2
  all_goals
    go_ret
    exact ⟨ret_b (by simp [tk1]), rfl⟩

set_option maxHeartbeats 400000 in
theorem wordTakes1_17  (w : World) : Calls Try.prog 15 #[.int .u8 17, .bool false] w fun e w' => e = .returned (.bool (tk1 17)) ∧ w' = w := by
  go_enter Try.func15, Try.ntmps15
  go_wp2
  all_goals
    go_ret
    exact ⟨ret_b (by simp [tk1]), rfl⟩

set_option maxHeartbeats 400000 in
theorem wordTakes1_hi (f : Int) (h : 18 ≤ f)  (w : World) : Calls Try.prog 15 #[.int .u8 f, .bool false] w fun e w' => e = .returned (.bool (tk1 f)) ∧ w' = w := by
  have hh : ¬ f ≤ 17 := by omega
  have hh2 : ¬ f ≤ 7 := by omega
  have n1 : (f == 1) = false := by simp; omega
  have n2 : (f == 2) = false := by simp; omega
  have n3 : (f == 3) = false := by simp; omega
  have n4 : (f == 4) = false := by simp; omega
  have n5 : (f == 5) = false := by simp; omega
  have n6 : (f == 6) = false := by simp; omega
  have n7 : (f == 7) = false := by simp; omega
  have n8 : (f == 8) = false := by simp; omega
  have n9 : (f == 9) = false := by simp; omega
  have n10 : (f == 10) = false := by simp; omega
  have n11 : (f == 11) = false := by simp; omega
  have n12 : (f == 12) = false := by simp; omega
  have n13 : (f == 13) = false := by simp; omega
  have n14 : (f == 14) = false := by simp; omega
  have n15 : (f == 15) = false := by simp; omega
  have n16 : (f == 16) = false := by simp; omega
  have n17 : (f == 17) = false := by simp; omega
  go_enter Try.func15, Try.ntmps15
  go_wp2
  all_goals
    go_ret
    exact ⟨ret_b (by simp [tk1]; omega), rfl⟩

theorem wordTakes1_any (f : Int) (hf : 0 ≤ f)  (w : World) : Calls Try.prog 15 #[.int .u8 f, .bool false] w fun e w' => e = .returned (.bool (tk1 f)) ∧ w' = w := by
  rcases (by omega : f = 0 ∨ f = 1 ∨ f = 2 ∨ f = 3 ∨ f = 4 ∨ f = 5 ∨ f = 6 ∨ f = 7 ∨ f = 8 ∨ f = 9 ∨ f = 10 ∨ f = 11 ∨ f = 12 ∨ f = 13 ∨ f = 14 ∨ f = 15 ∨ f = 16 ∨ f = 17 ∨ 18 ≤ f) with rfl | rfl | rfl | rfl | rfl | rfl | rfl | rfl | rfl | rfl | rfl | rfl | rfl | rfl | rfl | rfl | rfl | rfl | h
  · exact wordTakes1_0  w
  · exact wordTakes1_1  w
  · exact wordTakes1_2  w
  · exact wordTakes1_3  w
  · exact wordTakes1_4  w
  · exact wordTakes1_5  w
  · exact wordTakes1_6  w
  · exact wordTakes1_7  w
  · exact wordTakes1_8  w
  · exact wordTakes1_9  w
  · exact wordTakes1_10  w
  · exact wordTakes1_11  w
  · exact wordTakes1_12  w
  · exact wordTakes1_13  w
  · exact wordTakes1_14  w
  · exact wordTakes1_15  w
  · exact wordTakes1_16  w
  · exact wordTakes1_17  w
  · exact wordTakes1_hi f h  w

set_option maxHeartbeats 400000 in
theorem wordScans_0  (w : World) : Calls Try.prog 21 #[.int .u8 0] w fun e w' => e = .returned (.bool (sc 0)) ∧ w' = w := by
  go_enter Try.func21, Try.ntmps21
  go_wp2
  all_goals
    go_ret
    exact ⟨ret_b (by simp [sc]), rfl⟩

set_option maxHeartbeats 400000 in
theorem wordScans_1  (w : World) : Calls Try.prog 21 #[.int .u8 1] w fun e w' => e = .returned (.bool (sc 1)) ∧ w' = w := by
  go_enter Try.func21, Try.ntmps21
  go_wp2
  all_goals
    go_ret
    exact ⟨ret_b (by simp [sc]), rfl⟩

set_option maxHeartbeats 400000 in
theorem wordScans_2  (w : World) : Calls Try.prog 21 #[.int .u8 2] w fun e w' => e = .returned (.bool (sc 2)) ∧ w' = w := by
  go_enter Try.func21, Try.ntmps21
  go_wp2
  all_goals
    go_ret
    exact ⟨ret_b (by simp [sc]), rfl⟩

set_option maxHeartbeats 400000 in
theorem wordScans_3  (w : World) : Calls Try.prog 21 #[.int .u8 3] w fun e w' => e = .returned (.bool (sc 3)) ∧ w' = w := by
  go_enter Try.func21, Try.ntmps21
  go_wp2
  all_goals
    go_ret
    exact ⟨ret_b (by simp [sc]), rfl⟩

set_option maxHeartbeats 400000 in
theorem wordScans_4  (w : World) : Calls Try.prog 21 #[.int .u8 4] w fun e w' => e = .returned (.bool (sc 4)) ∧ w' = w := by
  go_enter Try.func21, Try.ntmps21
  go_wp2
  all_goals
    go_ret
    exact ⟨ret_b (by simp [sc]), rfl⟩

set_option maxHeartbeats 400000 in
theorem wordScans_5  (w : World) : Calls Try.prog 21 #[.int .u8 5] w fun e w' => e = .returned (.bool (sc 5)) ∧ w' = w := by
  go_enter Try.func21, Try.ntmps21
  go_wp2
  all_goals
    go_ret
    exact ⟨ret_b (by simp [sc]), rfl⟩

set_option maxHeartbeats 400000 in
theorem wordScans_6  (w : World) : Calls Try.prog 21 #[.int .u8 6] w fun e w' => e = .returned (.bool (sc 6)) ∧ w' = w := by
  go_enter Try.func21, Try.ntmps21
  go_wp2
  all_goals
    go_ret
    exact ⟨ret_b (by simp [sc]), rfl⟩

set_option maxHeartbeats 400000 in
theorem wordScans_7  (w : World) : Calls Try.prog 21 #[.int .u8 7] w fun e w' => e = .returned (.bool (sc 7)) ∧ w' = w := by
  go_enter Try.func21, Try.ntmps21
  go_wp2
  all_goals
    go_ret
    exact ⟨ret_b (by simp [sc]), rfl⟩

set_option maxHeartbeats 400000 in
theorem wordScans_8  (w : World) : Calls Try.prog 21 #[.int .u8 8] w fun e w' => e = .returned (.bool (sc 8)) ∧ w' = w := by
  go_enter Try.func21, Try.ntmps21
  go_wp2
  all_goals
    go_ret
    exact ⟨ret_b (by simp [sc]), rfl⟩

set_option maxHeartbeats 400000 in
theorem wordScans_9  (w : World) : Calls Try.prog 21 #[.int .u8 9] w fun e w' => e = .returned (.bool (sc 9)) ∧ w' = w := by
  go_enter Try.func21, Try.ntmps21
  go_wp2
  all_goals
    go_ret
    exact ⟨ret_b (by simp [sc]), rfl⟩

set_option maxHeartbeats 400000 in
theorem wordScans_10  (w : World) : Calls Try.prog 21 #[.int .u8 10] w fun e w' => e = .returned (.bool (sc 10)) ∧ w' = w := by
  go_enter Try.func21, Try.ntmps21
  go_wp2
  all_goals
    go_ret
    exact ⟨ret_b (by simp [sc]), rfl⟩

set_option maxHeartbeats 400000 in
theorem wordScans_11  (w : World) : Calls Try.prog 21 #[.int .u8 11] w fun e w' => e = .returned (.bool (sc 11)) ∧ w' = w := by
  go_enter Try.func21, Try.ntmps21
  go_wp2
  all_goals
    go_ret
    exact ⟨ret_b (by simp [sc]), rfl⟩

set_option maxHeartbeats 400000 in
theorem wordScans_12  (w : World) : Calls Try.prog 21 #[.int .u8 12] w fun e w' => e = .returned (.bool (sc 12)) ∧ w' = w := by
  go_enter Try.func21, Try.ntmps21
  go_wp2
  all_goals
    go_ret
    exact ⟨ret_b (by simp [sc]), rfl⟩

set_option maxHeartbeats 400000 in
theorem wordScans_13  (w : World) : Calls Try.prog 21 #[.int .u8 13] w fun e w' => e = .returned (.bool (sc 13)) ∧ w' = w := by
  go_enter Try.func21, Try.ntmps21
  go_wp2
  all_goals
    go_ret
    exact ⟨ret_b (by simp [sc]), rfl⟩

set_option maxHeartbeats 400000 in
theorem wordScans_14  (w : World) : Calls Try.prog 21 #[.int .u8 14] w fun e w' => e = .returned (.bool (sc 14)) ∧ w' = w := by
  go_enter Try.func21, Try.ntmps21
  go_wp2
  all_goals
    go_ret
    exact ⟨ret_b (by simp [sc]), rfl⟩

set_option maxHeartbeats 400000 in
theorem wordScans_15  (w : World) : Calls Try.prog 21 #[.int .u8 15] w fun e w' => e = .returned (.bool (sc 15)) ∧ w' = w := by
  go_enter Try.func21, Try.ntmps21
  go_wp2
  all_goals
    go_ret
    exact ⟨ret_b (by simp [sc]), rfl⟩

set_option maxHeartbeats 400000 in
theorem wordScans_16  (w : World) : Calls Try.prog 21 #[.int .u8 16] w fun e w' => e = .returned (.bool (sc 16)) ∧ w' = w := by
  go_enter Try.func21, Try.ntmps21
  go_wp2
  all_goals
    go_ret
    exact ⟨ret_b (by simp [sc]), rfl⟩

set_option maxHeartbeats 400000 in
theorem wordScans_17  (w : World) : Calls Try.prog 21 #[.int .u8 17] w fun e w' => e = .returned (.bool (sc 17)) ∧ w' = w := by
  go_enter Try.func21, Try.ntmps21
  go_wp2
  all_goals
    go_ret
    exact ⟨ret_b (by simp [sc]), rfl⟩

set_option maxHeartbeats 400000 in
theorem wordScans_hi (f : Int) (h : 18 ≤ f)  (w : World) : Calls Try.prog 21 #[.int .u8 f] w fun e w' => e = .returned (.bool (sc f)) ∧ w' = w := by
  have n1 : (f == 1) = false := by simp; omega
  have n2 : (f == 2) = false := by simp; omega
  have n3 : (f == 3) = false := by simp; omega
  have n4 : (f == 4) = false := by simp; omega
  have n5 : (f == 5) = false := by simp; omega
  have n6 : (f == 6) = false := by simp; omega
  have n7 : (f == 7) = false := by simp; omega
  have n8 : (f == 8) = false := by simp; omega
  have n9 : (f == 9) = false := by simp; omega
  have n10 : (f == 10) = false := by simp; omega
  have n11 : (f == 11) = false := by simp; omega
  have n12 : (f == 12) = false := by simp; omega
  have n13 : (f == 13) = false := by simp; omega
  have n14 : (f == 14) = false := by simp; omega
  have n15 : (f == 15) = false := by simp; omega
  have n16 : (f == 16) = false := by simp; omega
  have n17 : (f == 17) = false := by simp; omega
  go_enter Try.func21, Try.ntmps21
  go_wp2
  all_goals
    go_ret
    exact ⟨ret_b (by simp [sc]; omega), rfl⟩

theorem wordScans_any (f : Int) (hf : 0 ≤ f)  (w : World) : Calls Try.prog 21 #[.int .u8 f] w fun e w' => e = .returned (.bool (sc f)) ∧ w' = w := by
  rcases (by omega : f = 0 ∨ f = 1 ∨ f = 2 ∨ f = 3 ∨ f = 4 ∨ f = 5 ∨ f = 6 ∨ f = 7 ∨ f = 8 ∨ f = 9 ∨ f = 10 ∨ f = 11 ∨ f = 12 ∨ f = 13 ∨ f = 14 ∨ f = 15 ∨ f = 16 ∨ f = 17 ∨ 18 ≤ f) with rfl | rfl | rfl | rfl | rfl | rfl | rfl | rfl | rfl | rfl | rfl | rfl | rfl | rfl | rfl | rfl | rfl | rfl | h
  · exact wordScans_0  w
  · exact wordScans_1  w
  · exact wordScans_2  w
  · exact wordScans_3  w
  · exact wordScans_4  w
  · exact wordScans_5  w
  · exact wordScans_6  w
  · exact wordScans_7  w
  · exact wordScans_8  w
  · exact wordScans_9  w
  · exact wordScans_10  w
  · exact wordScans_11  w
  · exact wordScans_12  w
  · exact wordScans_13  w
  · exact wordScans_14  w
  · exact wordScans_15  w
  · exact wordScans_16  w
  · exact wordScans_17  w
  · exact wordScans_hi f h  w

set_option maxHeartbeats 400000 in
theorem wordUnit_0  (w : World) : Calls Try.prog 19 #[.int .u8 0] w fun e w' => e = .returned (.tuple #[.int .i64 (uv 0), .bool (ub 0)]) ∧ w' = w := by
  go_enter Try.func19, Try.ntmps19
  go_wp2
  all_goals
    go_ret2
    exact ⟨ret_i64b (by simp [uv]) (by simp [ub]), rfl⟩

set_option maxHeartbeats 400000 in
theorem wordUnit_1  (w : World) : Calls Try.prog 19 #[.int .u8 1] w fun e w' => e = .returned (.tuple #[.int .i64 (uv 1), .bool (ub 1)]) ∧ w' = w := by
  go_enter Try.func19, Try.ntmps19
  go_wp2
  all_goals
    go_ret2
    exact ⟨ret_i64b (by simp [uv]) (by simp [ub]), rfl⟩

set_option maxHeartbeats 400000 in
theorem wordUnit_2  (w : World) : Calls Try.prog 19 #[.int .u8 2] w fun e w' => e = .returned (.tuple #[.int .i64 (uv 2), .bool (ub 2)]) ∧ w' = w := by
  go_enter Try.func19, Try.ntmps19
  go_wp2
  all_goals
    go_ret2
    exact ⟨ret_i64b (by simp [uv]) (by simp [ub]), rfl⟩

set_option maxHeartbeats 400000 in
theorem wordUnit_3  (w : World) : Calls Try.prog 19 #[.int .u8 3] w fun e w' => e = .returned (.tuple #[.int .i64 (uv 3), .bool (ub 3)]) ∧ w' = w := by
  go_enter Try.func19, Try.ntmps19
  go_wp2
  all_goals
    go_ret2
    exact ⟨ret_i64b (by simp [uv]) (by simp [ub]), rfl⟩

set_option maxHeartbeats 400000 in
theorem wordUnit_4  (w : World) : Calls Try.prog 19 #[.int .u8 4] w fun e w' => e = .returned (.tuple #[.int .i64 (uv 4), .bool (ub 4)]) ∧ w' = w := by
  go_enter Try.func19, Try.ntmps19
  go_wp2
  all_goals
    go_ret2
    exact ⟨ret_i64b (by simp [uv]) (by simp [ub]), rfl⟩

set_option maxHeartbeats 400000 in
theorem wordUnit_5  (w : World) : Calls Try.prog 19 #[.int .u8 5] w fun e w' => e = .returned (.tuple #[.int .i64 (uv 5), .bool (ub 5)]) ∧ w' = w := by
  go_enter Try.func19, Try.ntmps19
  go_wp2
  all_goals
    go_ret2
    exact ⟨ret_i64b (by simp [uv]) (by simp [ub]), rfl⟩

set_option maxHeartbeats 400000 in
theorem wordUnit_6  (w : World) : Calls Try.prog 19 #[.int .u8 6] w fun e w' => e = .returned (.tuple #[.int .i64 (uv 6), .bool (ub 6)]) ∧ w' = w := by
  go_enter Try.func19, Try.ntmps19
  go_wp2
  all_goals
    go_ret2
    exact ⟨ret_i64b (by simp [uv]) (by simp [ub]), rfl⟩

set_option maxHeartbeats 400000 in
theorem wordUnit_7  (w : World) : Calls Try.prog 19 #[.int .u8 7] w fun e w' => e = .returned (.tuple #[.int .i64 (uv 7), .bool (ub 7)]) ∧ w' = w := by
  go_enter Try.func19, Try.ntmps19
  go_wp2
  all_goals
    go_ret2
    exact ⟨ret_i64b (by simp [uv]) (by simp [ub]), rfl⟩

set_option maxHeartbeats 400000 in
theorem wordUnit_8  (w : World) : Calls Try.prog 19 #[.int .u8 8] w fun e w' => e = .returned (.tuple #[.int .i64 (uv 8), .bool (ub 8)]) ∧ w' = w := by
  go_enter Try.func19, Try.ntmps19
  go_wp2
  all_goals
    go_ret2
    exact ⟨ret_i64b (by simp [uv]) (by simp [ub]), rfl⟩

set_option maxHeartbeats 400000 in
theorem wordUnit_9  (w : World) : Calls Try.prog 19 #[.int .u8 9] w fun e w' => e = .returned (.tuple #[.int .i64 (uv 9), .bool (ub 9)]) ∧ w' = w := by
  go_enter Try.func19, Try.ntmps19
  go_wp2
  all_goals
    go_ret2
    exact ⟨ret_i64b (by simp [uv]) (by simp [ub]), rfl⟩

set_option maxHeartbeats 400000 in
theorem wordUnit_10  (w : World) : Calls Try.prog 19 #[.int .u8 10] w fun e w' => e = .returned (.tuple #[.int .i64 (uv 10), .bool (ub 10)]) ∧ w' = w := by
  go_enter Try.func19, Try.ntmps19
  go_wp2
  all_goals
    go_ret2
    exact ⟨ret_i64b (by simp [uv]) (by simp [ub]), rfl⟩

set_option maxHeartbeats 400000 in
theorem wordUnit_11  (w : World) : Calls Try.prog 19 #[.int .u8 11] w fun e w' => e = .returned (.tuple #[.int .i64 (uv 11), .bool (ub 11)]) ∧ w' = w := by
  go_enter Try.func19, Try.ntmps19
  go_wp2
  all_goals
    go_ret2
    exact ⟨ret_i64b (by simp [uv]) (by simp [ub]), rfl⟩

set_option maxHeartbeats 400000 in
theorem wordUnit_12  (w : World) : Calls Try.prog 19 #[.int .u8 12] w fun e w' => e = .returned (.tuple #[.int .i64 (uv 12), .bool (ub 12)]) ∧ w' = w := by
  go_enter Try.func19, Try.ntmps19
  go_wp2
  all_goals
    go_ret2
    exact ⟨ret_i64b (by simp [uv]) (by simp [ub]), rfl⟩

set_option maxHeartbeats 400000 in
theorem wordUnit_13  (w : World) : Calls Try.prog 19 #[.int .u8 13] w fun e w' => e = .returned (.tuple #[.int .i64 (uv 13), .bool (ub 13)]) ∧ w' = w := by
  go_enter Try.func19, Try.ntmps19
  go_wp2
  all_goals
    go_ret2
    exact ⟨ret_i64b (by simp [uv]) (by simp [ub]), rfl⟩

set_option maxHeartbeats 400000 in
theorem wordUnit_14  (w : World) : Calls Try.prog 19 #[.int .u8 14] w fun e w' => e = .returned (.tuple #[.int .i64 (uv 14), .bool (ub 14)]) ∧ w' = w := by
  go_enter Try.func19, Try.ntmps19
  go_wp2
  all_goals
    go_ret2
    exact ⟨ret_i64b (by simp [uv]) (by simp [ub]), rfl⟩

set_option maxHeartbeats 400000 in
theorem wordUnit_15  (w : World) : Calls Try.prog 19 #[.int .u8 15] w fun e w' => e = .returned (.tuple #[.int .i64 (uv 15), .bool (ub 15)]) ∧ w' = w := by
  go_enter Try.func19, Try.ntmps19
  go_wp2
  all_goals
    go_ret2
    exact ⟨ret_i64b (by simp [uv]) (by simp [ub]), rfl⟩

set_option maxHeartbeats 400000 in
theorem wordUnit_16  (w : World) : Calls Try.prog 19 #[.int .u8 16] w fun e w' => e = .returned (.tuple #[.int .i64 (uv 16), .bool (ub 16)]) ∧ w' = w := by
  go_enter Try.func19, Try.ntmps19
  go_wp2
  all_goals
    go_ret2
    exact ⟨ret_i64b (by simp [uv]) (by simp [ub]), rfl⟩

set_option maxHeartbeats 400000 in
theorem wordUnit_17  (w : World) : Calls Try.prog 19 #[.int .u8 17] w fun e w' => e = .returned (.tuple #[.int .i64 (uv 17), .bool (ub 17)]) ∧ w' = w := by
  go_enter Try.func19, Try.ntmps19
  go_wp2
  all_goals
    go_ret2
    exact ⟨ret_i64b (by simp [uv]) (by simp [ub]), rfl⟩

set_option maxHeartbeats 400000 in
theorem wordUnit_hi (f : Int) (h : 18 ≤ f)  (w : World) : Calls Try.prog 19 #[.int .u8 f] w fun e w' => e = .returned (.tuple #[.int .i64 (uv f), .bool (ub f)]) ∧ w' = w := by
  have n1 : (f == 1) = false := by simp; omega
  have n2 : (f == 2) = false := by simp; omega
  have n3 : (f == 3) = false := by simp; omega
  have n4 : (f == 4) = false := by simp; omega
  have n5 : (f == 5) = false := by simp; omega
  have n6 : (f == 6) = false := by simp; omega
  have n7 : (f == 7) = false := by simp; omega
  have n8 : (f == 8) = false := by simp; omega
  have n9 : (f == 9) = false := by simp; omega
  have n10 : (f == 10) = false := by simp; omega
  have n11 : (f == 11) = false := by simp; omega
  have n12 : (f == 12) = false := by simp; omega
  have n13 : (f == 13) = false := by simp; omega
  have n14 : (f == 14) = false := by simp; omega
  have n15 : (f == 15) = false := by simp; omega
  have n16 : (f == 16) = false := by simp; omega
  have n17 : (f == 17) = false := by simp; omega
  go_enter Try.func19, Try.ntmps19
  go_wp2
  all_goals
    go_ret2
    exact ⟨ret_i64b (by simp [uv]; omega) (by simp [ub]; omega), rfl⟩

theorem wordUnit_any (f : Int) (hf : 0 ≤ f)  (w : World) : Calls Try.prog 19 #[.int .u8 f] w fun e w' => e = .returned (.tuple #[.int .i64 (uv f), .bool (ub f)]) ∧ w' = w := by
  rcases (by omega : f = 0 ∨ f = 1 ∨ f = 2 ∨ f = 3 ∨ f = 4 ∨ f = 5 ∨ f = 6 ∨ f = 7 ∨ f = 8 ∨ f = 9 ∨ f = 10 ∨ f = 11 ∨ f = 12 ∨ f = 13 ∨ f = 14 ∨ f = 15 ∨ f = 16 ∨ f = 17 ∨ 18 ≤ f) with rfl | rfl | rfl | rfl | rfl | rfl | rfl | rfl | rfl | rfl | rfl | rfl | rfl | rfl | rfl | rfl | rfl | rfl | h
  · exact wordUnit_0  w
  · exact wordUnit_1  w
  · exact wordUnit_2  w
  · exact wordUnit_3  w
  · exact wordUnit_4  w
  · exact wordUnit_5  w
  · exact wordUnit_6  w
  · exact wordUnit_7  w
  · exact wordUnit_8  w
  · exact wordUnit_9  w
  · exact wordUnit_10  w
  · exact wordUnit_11  w
  · exact wordUnit_12  w
  · exact wordUnit_13  w
  · exact wordUnit_14  w
  · exact wordUnit_15  w
  · exact wordUnit_16  w
  · exact wordUnit_17  w
  · exact wordUnit_hi f h  w

set_option maxHeartbeats 400000 in
theorem wordTotal2_0  (w : World) : Calls Try.prog 22 #[.int .u8 0, .bool true] w fun e w' => e = .returned (.bool (tot2 0)) ∧ w' = w := by
  go_enter Try.func22, Try.ntmps22
  go_wp2_with (go_at_call 15; refine (wordTakes2_0 _).mono ?_; rintro e w' ⟨rfl, rfl⟩)
  all_goals
    go_ret
    exact ⟨ret_b (by decide), rfl⟩

set_option maxHeartbeats 400000 in
theorem wordTotal2_1  (w : World) : Calls Try.prog 22 #[.int .u8 1, .bool true] w fun e w' => e = .returned (.bool (tot2 1)) ∧ w' = w := by
  go_enter Try.func22, Try.ntmps22
  go_wp2_with (go_at_call 15; refine (wordTakes2_1 _).mono ?_; rintro e w' ⟨rfl, rfl⟩)
  all_goals
    go_ret
    exact ⟨ret_b (by decide), rfl⟩

set_option maxHeartbeats 400000 in
theorem wordTotal2_2  (w : World) : Calls Try.prog 22 #[.int .u8 2, .bool true] w fun e w' => e = .returned (.bool (tot2 2)) ∧ w' = w := by
  go_enter Try.func22, Try.ntmps22
  go_wp2_with (go_at_call 15; refine (wordTakes2_2 _).mono ?_; rintro e w' ⟨rfl, rfl⟩)
  all_goals
    go_ret
    exact ⟨ret_b (by decide), rfl⟩

set_option maxHeartbeats 400000 in
theorem wordTotal2_3  (w : World) : Calls Try.prog 22 #[.int .u8 3, .bool true] w fun e w' => e = .returned (.bool (tot2 3)) ∧ w' = w := by
  go_enter Try.func22, Try.ntmps22
  go_wp2_with (go_at_call 15; refine (wordTakes2_3 _).mono ?_; rintro e w' ⟨rfl, rfl⟩)
  all_goals
    go_ret
    exact ⟨ret_b (by decide), rfl⟩

set_option maxHeartbeats 400000 in
theorem wordTotal2_4  (w : World) : Calls Try.prog 22 #[.int .u8 4, .bool true] w fun e w' => e = .returned (.bool (tot2 4)) ∧ w' = w := by
  go_enter Try.func22, Try.ntmps22
  go_wp2_with (go_at_call 15; refine (wordTakes2_4 _).mono ?_; rintro e w' ⟨rfl, rfl⟩)
  all_goals
    go_ret
    exact ⟨ret_b (by decide), rfl⟩

set_option maxHeartbeats 400000 in
theorem wordTotal2_5  (w : World) : Calls Try.prog 22 #[.int .u8 5, .bool true] w fun e w' => e = .returned (.bool (tot2 5)) ∧ w' = w := by
  go_enter Try.func22, Try.ntmps22
  go_wp2_with (go_at_call 15; refine (wordTakes2_5 _).mono ?_; rintro e w' ⟨rfl, rfl⟩)
  all_goals
    go_ret
    exact ⟨ret_b (by decide), rfl⟩

set_option maxHeartbeats 400000 in
theorem wordTotal2_6  (w : World) : Calls Try.prog 22 #[.int .u8 6, .bool true] w fun e w' => e = .returned (.bool (tot2 6)) ∧ w' = w := by
  go_enter Try.func22, Try.ntmps22
  go_wp2_with (go_at_call 15; refine (wordTakes2_6 _).mono ?_; rintro e w' ⟨rfl, rfl⟩)
  all_goals
    go_ret
    exact ⟨ret_b (by decide), rfl⟩

set_option maxHeartbeats 400000 in
theorem wordTotal2_7  (w : World) : Calls Try.prog 22 #[.int .u8 7, .bool true] w fun e w' => e = .returned (.bool (tot2 7)) ∧ w' = w := by
  go_enter Try.func22, Try.ntmps22
  go_wp2_with (go_at_call 15; refine (wordTakes2_7 _).mono ?_; rintro e w' ⟨rfl, rfl⟩)
  all_goals
    go_ret
    exact ⟨ret_b (by decide), rfl⟩

set_option maxHeartbeats 400000 in
theorem wordTotal2_8  (w : World) : Calls Try.prog 22 #[.int .u8 8, .bool true] w fun e w' => e = .returned (.bool (tot2 8)) ∧ w' = w := by
  go_enter Try.func22, Try.ntmps22
  go_wp2_with (go_at_call 15; refine (wordTakes2_8 _).mono ?_; rintro e w' ⟨rfl, rfl⟩)
  all_goals
    go_ret
    exact ⟨ret_b (by decide), rfl⟩

set_option maxHeartbeats 400000 in
theorem wordTotal2_9  (w : World) : Calls Try.prog 22 #[.int .u8 9, .bool true] w fun e w' => e = .returned (.bool (tot2 9)) ∧ w' = w := by
  go_enter Try.func22, Try.ntmps22
  go_wp2_with (go_at_call 15; refine (wordTakes2_9 _).mono ?_; rintro e w' ⟨rfl, rfl⟩)
  all_goals
    go_ret
    exact ⟨ret_b (by decide), rfl⟩

set_option maxHeartbeats 400000 in
theorem wordTotal2_10  (w : World) : Calls Try.prog 22 #[.int .u8 10, .bool true] w fun e w' => e = .returned (.bool (tot2 10)) ∧ w' = w := by
  go_enter Try.func22, Try.ntmps22
  go_wp2_with (go_at_call 15; refine (wordTakes2_10 _).mono ?_; rintro e w' ⟨rfl, rfl⟩)
  all_goals
    go_ret
    exact ⟨ret_b (by decide), rfl⟩

set_option maxHeartbeats 400000 in
theorem wordTotal2_11  (w : World) : Calls Try.prog 22 #[.int .u8 11, .bool true] w fun e w' => e = .returned (.bool (tot2 11)) ∧ w' = w := by
  go_enter Try.func22, Try.ntmps22
  go_wp2_with (go_at_call 15; refine (wordTakes2_11 _).mono ?_; rintro e w' ⟨rfl, rfl⟩)
  all_goals
    go_ret
    exact ⟨ret_b (by decide), rfl⟩

set_option maxHeartbeats 400000 in
theorem wordTotal2_12  (w : World) : Calls Try.prog 22 #[.int .u8 12, .bool true] w fun e w' => e = .returned (.bool (tot2 12)) ∧ w' = w := by
  go_enter Try.func22, Try.ntmps22
  go_wp2_with (go_at_call 15; refine (wordTakes2_12 _).mono ?_; rintro e w' ⟨rfl, rfl⟩)
  all_goals
    go_ret
    exact ⟨ret_b (by decide), rfl⟩

set_option maxHeartbeats 400000 in
theorem wordTotal2_13  (w : World) : Calls Try.prog 22 #[.int .u8 13, .bool true] w fun e w' => e = .returned (.bool (tot2 13)) ∧ w' = w := by
  go_enter Try.func22, Try.ntmps22
  go_wp2_with (go_at_call 15; refine (wordTakes2_13 _).mono ?_; rintro e w' ⟨rfl, rfl⟩)
  all_goals
    go_ret
    exact ⟨ret_b (by decide), rfl⟩

set_option maxHeartbeats 400000 in
theorem wordTotal2_14  (w : World) : Calls Try.prog 22 #[.int .u8 14, .bool true] w fun e w' => e = .returned (.bool (tot2 14)) ∧ w' = w := by
  go_enter Try.func22, Try.ntmps22
  go_wp2_with (go_at_call 15; refine (wordTakes2_14 _).mono ?_; rintro e w' ⟨rfl, rfl⟩)
  all_goals
    go_ret
    exact ⟨ret_b (by decide), rfl⟩

set_option maxHeartbeats 400000 in
theorem wordTotal2_15  (w : World) : Calls Try.prog 22 #[.int .u8 15, .bool true] w fun e w' => e = .returned (.bool (tot2 15)) ∧ w' = w := by
  go_enter Try.func22, Try.ntmps22
  go_wp2_with (go_at_call 15; refine (wordTakes2_15 _).mono ?_; rintro e w' ⟨rfl, rfl⟩)
  all_goals
    go_ret
    exact ⟨ret_b (by decide), rfl⟩

set_option maxHeartbeats 400000 in
theorem wordTotal2_16  (w : World) : Calls Try.prog 22 #[.int .u8 16, .bool true] w fun e w' => e = .returned (.bool (tot2 16)) ∧ w' = w := by
  go_enter Try.func22, Try.ntmps22
  go_wp2_with (go_at_call 15; refine (wordTakes2_16 _).mono ?_; rintro e w' ⟨rfl, rfl⟩)
  all_goals
    go_ret
    exact ⟨ret_b (by decide), rfl⟩

set_option maxHeartbeats 400000 in
theorem wordTotal2_17  (w : World) : Calls Try.prog 22 #[.int .u8 17, .bool true] w fun e w' => e = .returned (.bool (tot2 17)) ∧ w' = w := by
  go_enter Try.func22, Try.ntmps22
  go_wp2_with (go_at_call 15; refine (wordTakes2_17 _).mono ?_; rintro e w' ⟨rfl, rfl⟩)
  all_goals
    go_ret
    exact ⟨ret_b (by decide), rfl⟩

set_option maxHeartbeats 400000 in
theorem wordTotal2_hi (f : Int) (h : 18 ≤ f)  (w : World) : Calls Try.prog 22 #[.int .u8 f, .bool true] w fun e w' => e = .returned (.bool (tot2 f)) ∧ w' = w := by
  have hh := Lib.hid h
  have n1 : (f == 1) = false := by simp; omega
  have n2 : (f == 2) = false := by simp; omega
  have n3 : (f == 3) = false := by simp; omega
  have n4 : (f == 4) = false := by simp; omega
  have n5 : (f == 5) = false := by simp; omega
  have n6 : (f == 6) = false := by simp; omega
  have n7 : (f == 7) = false := by simp; omega
  have n8 : (f == 8) = false := by simp; omega
  have n9 : (f == 9) = false := by simp; omega
  have n10 : (f == 10) = false := by simp; omega
  have n11 : (f == 11) = false := by simp; omega
  have n12 : (f == 12) = false := by simp; omega
  have n13 : (f == 13) = false := by simp; omega
  have n14 : (f == 14) = false := by simp; omega
  have n15 : (f == 15) = false := by simp; omega
  have n16 : (f == 16) = false := by simp; omega
  have n17 : (f == 17) = false := by simp; omega
  go_enter Try.func22, Try.ntmps22
  go_wp2_with (go_at_call 15; refine (wordTakes2_hi _ hh.out _).mono ?_; rintro e w' ⟨rfl, rfl⟩)
  all_goals
    go_ret
    exact ⟨ret_b (by rw [tot2_hi f hh.out, tk2_hi f hh.out]), rfl⟩

theorem wordTotal2_any (f : Int) (hf : 0 ≤ f)  (w : World) : Calls Try.prog 22 #[.int .u8 f, .bool true] w fun e w' => e = .returned (.bool (tot2 f)) ∧ w' = w := by
  rcases (by omega : f = 0 ∨ f = 1 ∨ f = 2 ∨ f = 3 ∨ f = 4 ∨ f = 5 ∨ f = 6 ∨ f = 7 ∨ f = 8 ∨ f = 9 ∨ f = 10 ∨ f = 11 ∨ f = 12 ∨ f = 13 ∨ f = 14 ∨ f = 15 ∨ f = 16 ∨ f = 17 ∨ 18 ≤ f) with rfl | rfl | rfl | rfl | rfl | rfl | rfl | rfl | rfl | rfl | rfl | rfl | rfl | rfl | rfl | rfl | rfl | rfl | h
  · exact wordTotal2_0  w
  · exact wordTotal2_1  w
  · exact wordTotal2_2  w
  · exact wordTotal2_3  w
  · exact wordTotal2_4  w
  · exact wordTotal2_5  w
  · exact wordTotal2_6  w
  · exact wordTotal2_7  w
  · exact wordTotal2_8  w
  · exact wordTotal2_9  w
  · exact wordTotal2_10  w
  · exact wordTotal2_11  w
  · exact wordTotal2_12  w
  · exact wordTotal2_13  w
  · exact wordTotal2_14  w
  · exact wordTotal2_15  w
  · exact wordTotal2_16  w
  · exact wordTotal2_17  w
  · exact wordTotal2_hi f h  w

set_option maxHeartbeats 400000 in
theorem wordTotal1_0  (w : World) : Calls Try.prog 22 #[.int .u8 0, .bool false] w fun e w' => e = .returned (.bool (tot1 0)) ∧ w' = w := by
  go_enter Try.func22, Try.ntmps22
  go_wp2_with (go_at_call 15; refine (wordTakes1_0 _).mono ?_; rintro e w' ⟨rfl, rfl⟩)
  all_goals
    go_ret
    exact ⟨ret_b (by decide), rfl⟩

set_option maxHeartbeats 400000 in
theorem wordTotal1_1  (w : World) : Calls Try.prog 22 #[.int .u8 1, .bool false] w fun e w' => e = .returned (.bool (tot1 1)) ∧ w' = w := by
  go_enter Try.func22, Try.ntmps22
  go_wp2_with (go_at_call 15; refine (wordTakes1_1 _).mono ?_; rintro e w' ⟨rfl, rfl⟩)
  all_goals
    go_ret
    exact ⟨ret_b (by decide), rfl⟩

set_option maxHeartbeats 400000 in
theorem wordTotal1_2  (w : World) : Calls Try.prog 22 #[.int .u8 2, .bool false] w fun e w' => e = .returned (.bool (tot1 2)) ∧ w' = w := by
  go_enter Try.func22, Try.ntmps22
  go_wp2_with (go_at_call 15; refine (wordTakes1_2 _).mono ?_; rintro e w' ⟨rfl, rfl⟩)
  all_goals
    go_ret
    exact ⟨ret_b (by decide), rfl⟩

set_option maxHeartbeats 400000 in
theorem wordTotal1_3  (w : World) : Calls Try.prog 22 #[.int .u8 3, .bool false] w fun e w' => e = .returned (.bool (tot1 3)) ∧ w' = w := by
  go_enter Try.func22, Try.ntmps22
  go_wp2_with (go_at_call 15; refine (wordTakes1_3 _).mono ?_; rintro e w' ⟨rfl, rfl⟩)
  all_goals
    go_ret
    exact ⟨ret_b (by decide), rfl⟩

set_option maxHeartbeats 400000 in
theorem wordTotal1_4  (w : World) : Calls Try.prog 22 #[.int .u8 4, .bool false] w fun e w' => e = .returned (.bool (tot1 4)) ∧ w' = w := by
  go_enter Try.func22, Try.ntmps22
  go_wp2_with (go_at_call 15; refine (wordTakes1_4 _).mono ?_; rintro e w' ⟨rfl, rfl⟩)
  all_goals
    go_ret
    exact ⟨ret_b (by decide), rfl⟩

set_option maxHeartbeats 400000 in
theorem wordTotal1_5  (w : World) : Calls Try.prog 22 #[.int .u8 5, .bool false] w fun e w' => e = .returned (.bool (tot1 5)) ∧ w' = w := by
  go_enter Try.func22, Try.ntmps22
  go_wp2_with (go_at_call 15; refine (wordTakes1_5 _).mono ?_; rintro e w' ⟨rfl, rfl⟩)
  all_goals
    go_ret
    exact ⟨ret_b (by decide), rfl⟩

set_option maxHeartbeats 400000 in
theorem wordTotal1_6  (w : World) : Calls Try.prog 22 #[.int .u8 6, .bool false] w fun e w' => e = .returned (.bool (tot1 6)) ∧ w' = w := by
  go_enter Try.func22, Try.ntmps22
  go_wp2_with (go_at_call 15; refine (wordTakes1_6 _).mono ?_; rintro e w' ⟨rfl, rfl⟩)
  all_goals
    go_ret
    exact ⟨ret_b (by decide), rfl⟩

set_option maxHeartbeats 400000 in
theorem wordTotal1_7  (w : World) : Calls Try.prog 22 #[.int .u8 7, .bool false] w fun e w' => e = .returned (.bool (tot1 7)) ∧ w' = w := by
  go_enter Try.func22, Try.ntmps22
  go_wp2_with (go_at_call 15; refine (wordTakes1_7 _).mono ?_; rintro e w' ⟨rfl, rfl⟩)
  all_goals
    go_ret
    exact ⟨ret_b (by decide), rfl⟩

set_option maxHeartbeats 400000 in
theorem wordTotal1_8  (w : World) : Calls Try.prog 22 #[.int .u8 8, .bool false] w fun e w' => e = .returned (.bool (tot1 8)) ∧ w' = w := by
  go_enter Try.func22, Try.ntmps22
  go_wp2_with (go_at_call 15; refine (wordTakes1_8 _).mono ?_; rintro e w' ⟨rfl, rfl⟩)
  all_goals
    go_ret
    exact ⟨ret_b (by decide), rfl⟩

set_option maxHeartbeats 400000 in
theorem wordTotal1_9  (w : World) : Calls Try.prog 22 #[.int .u8 9, .bool false] w fun e w' => e = .returned (.bool (tot1 9)) ∧ w' = w := by
  go_enter Try.func22, Try.ntmps22
  go_wp2_with (go_at_call 15; refine (wordTakes1_9 _).mono ?_; rintro e w' ⟨rfl, rfl⟩)
  all_goals
    go_ret
    exact ⟨ret_b (by decide), rfl⟩

set_option maxHeartbeats 400000 in
theorem wordTotal1_10  (w : World) : Calls Try.prog 22 #[.int .u8 10, .bool false] w fun e w' => e = .returned (.bool (tot1 10)) ∧ w' = w := by
  go_enter Try.func22, Try.ntmps22
  go_wp2_with (go_at_call 15; refine (wordTakes1_10 _).mono ?_; rintro e w' ⟨rfl, rfl⟩)
  all_goals
    go_ret
    exact ⟨ret_b (by decide), rfl⟩

set_option maxHeartbeats 400000 in
theorem wordTotal1_11  (w : World) : Calls Try.prog 22 #[.int .u8 11, .bool false] w fun e w' => e = .returned (.bool (tot1 11)) ∧ w' = w := by
  go_enter Try.func22, Try.ntmps22
  go_wp2_with (go_at_call 15; refine (wordTakes1_11 _).mono ?_; rintro e w' ⟨rfl, rfl⟩)
  all_goals
    go_ret
    exact ⟨ret_b (by decide), rfl⟩

set_option maxHeartbeats 400000 in
theorem wordTotal1_12  (w : World) : Calls Try.prog 22 #[.int .u8 12, .bool false] w fun e w' => e = .returned (.bool (tot1 12)) ∧ w' = w := by
  go_enter Try.func22, Try.ntmps22
  go_wp2_with (go_at_call 15; refine (wordTakes1_12 _).mono ?_; rintro e w' ⟨rfl, rfl⟩)
  all_goals
    go_ret
    exact ⟨ret_b (by decide), rfl⟩

set_option maxHeartbeats 400000 in
theorem wordTotal1_13  (w : World) : Calls Try.prog 22 #[.int .u8 13, .bool false] w fun e w' => e = .returned (.bool (tot1 13)) ∧ w' = w := by
  go_enter Try.func22, Try.ntmps22
  go_wp2_with (go_at_call 15; refine (wordTakes1_13 _).mono ?_; rintro e w' ⟨rfl, rfl⟩)
  all_goals
    go_ret
    exact ⟨ret_b (by decide), rfl⟩

set_option maxHeartbeats 400000 in
theorem wordTotal1_14  (w : World) : Calls Try.prog 22 #[.int .u8 14, .bool false] w fun e w' => e = .returned (.bool (tot1 14)) ∧ w' = w := by
  go_enter Try.func22, Try.ntmps22
  go_wp2_with (go_at_call 15; refine (wordTakes1_14 _).mono ?_; rintro e w' ⟨rfl, rfl⟩)
  all_goals
    go_ret
    exact ⟨ret_b (by decide), rfl⟩

set_option maxHeartbeats 400000 in
theorem wordTotal1_15  (w : World) : Calls Try.prog 22 #[.int .u8 15, .bool false] w fun e w' => e = .returned (.bool (tot1 15)) ∧ w' = w := by
  go_enter Try.func22, Try.ntmps22
  go_wp2_with (go_at_call 15; refine (wordTakes1_15 _).mono ?_; rintro e w' ⟨rfl, rfl⟩)
  all_goals
    go_ret
    exact ⟨ret_b (by decide), rfl⟩

set_option maxHeartbeats 400000 in
theorem wordTotal1_16  (w : World) : Calls Try.prog 22 #[.int .u8 16, .bool false] w fun e w' => e = .returned (.bool (tot1 16)) ∧ w' = w := by
  go_enter Try.func22, Try.ntmps22
  go_wp2_with (go_at_call 15; refine (wordTakes1_16 _).mono ?_; rintro e w' ⟨rfl, rfl⟩)
  all_goals
    go_ret
    exact ⟨ret_b (by decide), rfl⟩

set_option maxHeartbeats 400000 in
theorem wordTotal1_17  (w : World) : Calls Try.prog 22 #[.int .u8 17, .bool false] w fun e w' => e = .returned (.bool (tot1 17)) ∧ w' = w := by
  go_enter Try.func22, Try.ntmps22
  go_wp2_with (go_at_call 15; refine (wordTakes1_17 _).mono ?_; rintro e w' ⟨rfl, rfl⟩)
  all_goals
    go_ret
    exact ⟨ret_b (by decide), rfl⟩

set_option maxHeartbeats 400000 in
theorem wordTotal1_hi (f : Int) (h : 18 ≤ f)  (w : World) : Calls Try.prog 22 #[.int .u8 f, .bool false] w fun e w' => e = .returned (.bool (tot1 f)) ∧ w' = w := by
  have hh := Lib.hid h
  have n1 : (f == 1) = false := by simp; omega
  have n2 : (f == 2) = false := by simp; omega
  have n3 : (f == 3) = false := by simp; omega
  have n4 : (f == 4) = false := by simp; omega
  have n5 : (f == 5) = false := by simp; omega
  have n6 : (f == 6) = false := by simp; omega
  have n7 : (f == 7) = false := by simp; omega
  have n8 : (f == 8) = false := by simp; omega
  have n9 : (f == 9) = false := by simp; omega
  have n10 : (f == 10) = false := by simp; omega
  have n11 : (f == 11) = false := by simp; omega
  have n12 : (f == 12) = false := by simp; omega
  have n13 : (f == 13) = false := by simp; omega
  have n14 : (f == 14) = false := by simp; omega
  have n15 : (f == 15) = false := by simp; omega
  have n16 : (f == 16) = false := by simp; omega
  have n17 : (f == 17) = false := by simp; omega
  go_enter Try.func22, Try.ntmps22
  go_wp2_with (go_at_call 15; refine (wordTakes1_hi _ hh.out _).mono ?_; rintro e w' ⟨rfl, rfl⟩)
  all_goals
    go_ret
    exact ⟨ret_b (by rw [tot1_hi f hh.out, tk1_hi f hh.out]), rfl⟩

theorem wordTotal1_any (f : Int) (hf : 0 ≤ f)  (w : World) : Calls Try.prog 22 #[.int .u8 f, .bool false] w fun e w' => e = .returned (.bool (tot1 f)) ∧ w' = w := by
  rcases (by omega : f = 0 ∨ f = 1 ∨ f = 2 ∨ f = 3 ∨ f = 4 ∨ f = 5 ∨ f = 6 ∨ f = 7 ∨ f = 8 ∨ f = 9 ∨ f = 10 ∨ f = 11 ∨ f = 12 ∨ f = 13 ∨ f = 14 ∨ f = 15 ∨ f = 16 ∨ f = 17 ∨ 18 ≤ f) with rfl | rfl | rfl | rfl | rfl | rfl | rfl | rfl | rfl | rfl | rfl | rfl | rfl | rfl | rfl | rfl | rfl | rfl | h
  · exact wordTotal1_0  w
  · exact wordTotal1_1  w
  · exact wordTotal1_2  w
  · exact wordTotal1_3  w
  · exact wordTotal1_4  w
  · exact wordTotal1_5  w
  · exact wordTotal1_6  w
  · exact wordTotal1_7  w
  · exact wordTotal1_8  w
  · exact wordTotal1_9  w
  · exact wordTotal1_10  w
  · exact wordTotal1_11  w
  · exact wordTotal1_12  w
  · exact wordTotal1_13  w
  · exact wordTotal1_14  w
  · exact wordTotal1_15  w
  · exact wordTotal1_16  w
  · exact wordTotal1_17  w
  · exact wordTotal1_hi f h  w

set_option maxHeartbeats 400000 in
theorem refTakes2_0  (w : World) : Calls Try.prog 16 #[.int .u8 0, .bool true] w fun e w' => e = .returned (.bool (tk2 0)) ∧ w' = w := by
  go_enter Try.func16, Try.ntmps16
  go_wp2
  all_goals
    go_ret
    exact ⟨ret_b (by simp [tk2]), rfl⟩

set_option maxHeartbeats 400000 in
theorem refTakes2_1  (w : World) : Calls Try.prog 16 #[.int .u8 1, .bool true] w fun e w' => e = .returned (.bool (tk2 1)) ∧ w' = w := by
  go_enter Try.func16, Try.ntmps16
  go_wp2
  all_goals
    go_ret
    exact ⟨ret_b (by simp [tk2]), rfl⟩

set_option maxHeartbeats 400000 in
theorem refTakes2_2  (w : World) : Calls Try.prog 16 #[.int .u8 2, .bool true] w fun e w' => e = .returned (.bool (tk2 2)) ∧ w' = w := by
  go_enter Try.func16, Try.ntmps16
  go_wp2
  all_goals
    go_ret
    exact ⟨ret_b (by simp [tk2]), rfl⟩

set_option maxHeartbeats 400000 in
theorem refTakes2_3  (w : World) : Calls Try.prog 16 #[.int .u8 3, .bool true] w fun e w' => e = .returned (.bool (tk2 3)) ∧ w' = w := by
  go_enter Try.func16, Try.ntmps16
  go_wp2
  all_goals
    go_ret
    exact ⟨ret_b (by simp [tk2]), rfl⟩

set_option maxHeartbeats 400000 in
theorem refTakes2_4  (w : World) : Calls Try.prog 16 #[.int .u8 4, .bool true] w fun e w' => e = .returned (.bool (tk2 4)) ∧ w' = w := by
  go_enter Try.func16, Try.ntmps16
  go_wp2
  all_goals
    go_ret
    exact ⟨ret_b (by simp [tk2]), rfl⟩

set_option maxHeartbeats 400000 in
theorem refTakes2_5  (w : World) : Calls Try.prog 16 #[.int .u8 5, .bool true] w fun e w' => e = .returned (.bool (tk2 5)) ∧ w' = w := by
  go_enter Try.func16, Try.ntmps16
  go_wp2
  all_goals
    go_ret
    exact ⟨ret_b (by simp [tk2]), rfl⟩

set_option maxHeartbeats 400000 in
theorem refTakes2_6  (w : World) : Calls Try.prog 16 #[.int .u8 6, .bool true] w fun e w' => e = .returned (.bool (tk2 6)) ∧ w' = w := by
  go_enter Try.func16, Try.ntmps16
  go_wp2
  all_goals
    go_ret
    exact ⟨ret_b (by simp [tk2]), rfl⟩

set_option maxHeartbeats 400000 in
theorem refTakes2_7  (w : World) : Calls Try.prog 16 #[.int .u8 7, .bool true] w fun e w' => e = .returned (.bool (tk2 7)) ∧ w' = w := by
  go_enter Try.func16, Try.ntmps16
  go_wp2
  all_goals
    go_ret
    exact ⟨ret_b (by simp [tk2]), rfl⟩

set_option maxHeartbeats 400000 in
theorem refTakes2_8  (w : World) : Calls Try.prog 16 #[.int .u8 8, .bool true] w fun e w' => e = .returned (.bool (tk2 8)) ∧ w' = w := by
  go_enter Try.func16, Try.ntmps16
  go_wp2
  all_goals
    go_ret
    exact ⟨ret_b (by simp [tk2]), rfl⟩

set_option maxHeartbeats 400000 in
theorem refTakes2_9  (w : World) : Calls Try.prog 16 #[.int .u8 9, .bool true] w fun e w' => e = .returned (.bool (tk2 9)) ∧ w' = w := by
  go_enter Try.func16, Try.ntmps16
  go_wp2
  all_goals
    go_ret
    exact ⟨ret_b (by simp [tk2]), rfl⟩

set_option maxHeartbeats 400000 in
theorem refTakes2_10  (w : World) : Calls Try.prog 16 #[.int .u8 10, .bool true] w fun e w' => e = .returned (.bool (tk2 10)) ∧ w' = w := by
  go_enter Try.func16, Try.ntmps16
  go_wp2
  all_goals
    go_ret
    exact ⟨ret_b (by simp [tk2]), rfl⟩

set_option maxHeartbeats 400000 in
theorem refTakes2_11  (w : World) : Calls Try.prog 16 #[.int .u8 11, .bool true] w fun e w' => e = .returned (.bool (tk2 11)) ∧ w' = w := by
  go_enter Try.func16, Try.ntmps16
  go_wp2
  all_goals
    go_ret
    exact ⟨ret_b (by simp [tk2]), rfl⟩

set_option maxHeartbeats 400000 in
theorem refTakes2_12  (w : World) : Calls Try.prog 16 #[.int .u8 12, .bool true] w fun e w' => e = .returned (.bool (tk2 12)) ∧ w' = w := by
  go_enter Try.func16, Try.ntmps16
  go_wp2
  all_goals
    go_ret
    exact ⟨ret_b (by simp [tk2]), rfl⟩

set_option maxHeartbeats 400000 in
theorem refTakes2_13  (w : World) : Calls Try.prog 16 #[.int .u8 13, .bool true] w fun e w' => e = .returned (.bool (tk2 13)) ∧ w' = w := by
  go_enter Try.func16, Try.ntmps16
  go_wp2
  all_goals
    go_ret
    exact ⟨ret_b (by simp [tk2]), rfl⟩

set_option maxHeartbeats 400000 in
theorem refTakes2_14  (w : World) : Calls Try.prog 16 #[.int .u8 14, .bool true] w fun e w' => e = .returned (.bool (tk2 14)) ∧ w' = w := by
  go_enter Try.func16, Try.ntmps16
  go_wp2
  all_goals
    go_ret
    exact ⟨ret_b (by simp [tk2]), rfl⟩

set_option maxHeartbeats 400000 in
theorem refTakes2_15  (w : World) : Calls Try.prog 16 #[.int .u8 15, .bool true] w fun e w' => e = .returned (.bool (tk2 15)) ∧ w' = w := by
  go_enter Try.func16, Try.ntmps16
  go_wp2
  all_goals
    go_ret
    exact ⟨ret_b (by simp [tk2]), rfl⟩

set_option maxHeartbeats 400000 in
theorem refTakes2_16  (w : World) : Calls Try.prog 16 #[.int .u8 16, .bool true] w fun e w' => e = .returned (.bool (tk2 16)) ∧ w' = w := by
  go_enter Try.func16, Try.ntmps16
  go_wp2
  all_goals
    go_ret
    exact ⟨ret_b (by simp [tk2]), rfl⟩

set_option maxHeartbeats 400000 in
theorem refTakes2_17  (w : World) : Calls Try.prog 16 #[.int .u8 17, .bool true] w fun e w' => e = .returned (.bool (tk2 17)) ∧ w' = w := by
  go_enter Try.func16, Try.ntmps16
  go_wp2
  all_goals
    go_ret
    exact ⟨ret_b (by simp [tk2]), rfl⟩

set_option maxHeartbeats 400000 in
theorem refTakes2_hi (f : Int) (h : 18 ≤ f)  (w : World) : Calls Try.prog 16 #[.int .u8 f, .bool true] w fun e w' => e = .returned (.bool (tk2 f)) ∧ w' = w := by
  have hh : ¬ f ≤ 17 := by omega
  have hh2 : ¬ f ≤ 7 := by omega
  have n1 : (f == 1) = false := by simp; omega
  have n2 : (f == 2) = false := by simp; omega
  have n3 : (f == 3) = false := by simp; omega
  have n4 : (f == 4) = false := by simp; omega
  have n5 : (f == 5) = false := by simp; omega
  have n6 : (f == 6) = false := by simp; omega
  have n7 : (f == 7) = false := by simp; omega
  have n8 : (f == 8) = false := by simp; omega
  have n9 : (f == 9) = false := by simp; omega
  have n10 : (f == 10) = false := by simp; omega
  have n11 : (f == 11) = false := by simp; omega
  have n12 : (f == 12) = false := by simp; omega
  have n13 : (f == 13) = false := by simp; omega
  have n14 : (f == 14) = false := by simp; omega
  have n15 : (f == 15) = false := by simp; omega
  have n16 : (f == 16) = false := by simp; omega
  have n17 : (f == 17) = false := by simp; omega
  go_enter Try.func16, Try.ntmps16
  go_wp2
  all_goals
    go_ret
    exact ⟨ret_b (by simp [tk2]; omega), rfl⟩

theorem refTakes2_any (f : Int) (hf : 0 ≤ f)  (w : World) : Calls Try.prog 16 #[.int .u8 f, .bool true] w fun e w' => e = .returned (.bool (tk2 f)) ∧ w' = w := by
  rcases (by omega : f = 0 ∨ f = 1 ∨ f = 2 ∨ f = 3 ∨ f = 4 ∨ f = 5 ∨ f = 6 ∨ f = 7 ∨ f = 8 ∨ f = 9 ∨ f = 10 ∨ f = 11 ∨ f = 12 ∨ f = 13 ∨ f = 14 ∨ f = 15 ∨ f = 16 ∨ f = 17 ∨ 18 ≤ f) with rfl | rfl | rfl | rfl | rfl | rfl | rfl | rfl | rfl | rfl | rfl | rfl | rfl | rfl | rfl | rfl | rfl | rfl | h
  · exact refTakes2_0  w
  · exact refTakes2_1  w
  · exact refTakes2_2  w
  · exact refTakes2_3  w
  · exact refTakes2_4  w
  · exact refTakes2_5  w
  · exact refTakes2_6  w
  · exact refTakes2_7  w
  · exact refTakes2_8  w
  · exact refTakes2_9  w
  · exact refTakes2_10  w
  · exact refTakes2_11  w
  · exact refTakes2_12  w
  · exact refTakes2_13  w
  · exact refTakes2_14  w
  · exact refTakes2_15  w
  · exact refTakes2_16  w
  · exact refTakes2_17  w
  · exact refTakes2_hi f h  w

set_option maxHeartbeats 400000 in
theorem refTakes1_0  (w : World) : Calls Try.prog 16 #[.int .u8 0, .bool false] w fun e w' => e = .returned (.bool (tk1 0)) ∧ w' = w := by
  go_enter Try.func16, Try.ntmps16
  go_wp2
  all_goals
    go_ret
    exact ⟨ret_b (by simp [tk1]), rfl⟩

set_option maxHeartbeats 400000 in
theorem refTakes1_1  (w : World) : Calls Try.prog 16 #[.int .u8 1, .bool false] w fun e w' => e = .returned (.bool (tk1 1)) ∧ w' = w := by
  go_enter Try.func16, Try.ntmps16
  go_wp2
  all_goals
    go_ret
    exact ⟨ret_b (by simp [tk1]), rfl⟩

set_option maxHeartbeats 400000 in
theorem refTakes1_2  (w : World) : Calls Try.prog 16 #[.int .u8 2, .bool false] w fun e w' => e = .returned (.bool (tk1 2)) ∧ w' = w := by
  go_enter Try.func16, Try.ntmps16
  go_wp2
  all_goals
    go_ret
    exact ⟨ret_b (by simp [tk1]), rfl⟩

set_option maxHeartbeats 400000 in
theorem refTakes1_3  (w : World) : Calls Try.prog 16 #[.int .u8 3, .bool false] w fun e w' => e = .returned (.bool (tk1 3)) ∧ w' = w := by
  go_enter Try.func16, Try.ntmps16
  go_wp2
  all_goals
    go_ret
    exact ⟨ret_b (by simp [tk1]), rfl⟩

set_option maxHeartbeats 400000 in
theorem refTakes1_4  (w : World) : Calls Try.prog 16 #[.int .u8 4, .bool false] w fun e w' => e = .returned (.bool (tk1 4)) ∧ w' = w := by
  go_enter Try.func16, Try.ntmps16
  go_wp2
  all_goals
    go_ret
    exact ⟨ret_b (by simp [tk1]), rfl⟩

set_option maxHeartbeats 400000 in
theorem refTakes1_5  (w : World) : Calls Try.prog 16 #[.int .u8 5, .bool false] w fun e w' => e = .returned (.bool (tk1 5)) ∧ w' = w := by
  go_enter Try.func16, Try.ntmps16
  go_wp2
  all_goals
    go_ret
    exact ⟨ret_b (by simp [tk1]), rfl⟩

set_option maxHeartbeats 400000 in
theorem refTakes1_6  (w : World) : Calls Try.prog 16 #[.int .u8 6, .bool false] w fun e w' => e = .returned (.bool (tk1 6)) ∧ w' = w := by
  go_enter Try.func16, Try.ntmps16
  go_wp2
  all_goals
    go_ret
    exact ⟨ret_b (by simp [tk1]), rfl⟩

set_option maxHeartbeats 400000 in
theorem refTakes1_7  (w : World) : Calls Try.prog 16 #[.int .u8 7, .bool false] w fun e w' => e = .returned (.bool (tk1 7)) ∧ w' = w := by
  go_enter Try.func16, Try.ntmps16
  go_wp2
  all_goals
    go_ret
    exact ⟨ret_b (by simp [tk1]), rfl⟩

set_option maxHeartbeats 400000 in
theorem refTakes1_8  (w : World) : Calls Try.prog 16 #[.int .u8 8, .bool false] w fun e w' => e = .returned (.bool (tk1 8)) ∧ w' = w := by
  go_enter Try.func16, Try.ntmps16
  go_wp2
  all_goals
    go_ret
    exact ⟨ret_b (by simp [tk1]), rfl⟩

set_option maxHeartbeats 400000 in
theorem refTakes1_9  (w : World) : Calls Try.prog 16 #[.int .u8 9, .bool false] w fun e w' => e = .returned (.bool (tk1 9)) ∧ w' = w := by
  go_enter Try.func16, Try.ntmps16
  go_wp2
  all_goals
    go_ret
    exact ⟨ret_b (by simp [tk1]), rfl⟩

set_option maxHeartbeats 400000 in
theorem refTakes1_10  (w : World) : Calls Try.prog 16 #[.int .u8 10, .bool false] w fun e w' => e = .returned (.bool (tk1 10)) ∧ w' = w := by
  go_enter Try.func16, Try.ntmps16
  go_wp2
  all_goals
    go_ret
    exact ⟨ret_b (by simp [tk1]), rfl⟩

set_option maxHeartbeats 400000 in
theorem refTakes1_11  (w : World) : Calls Try.prog 16 #[.int .u8 11, .bool false] w fun e w' => e = .returned (.bool (tk1 11)) ∧ w' = w := by
  go_enter Try.func16, Try.ntmps16
  go_wp2
  all_goals
    go_ret
    exact ⟨ret_b (by simp [tk1]), rfl⟩

set_option maxHeartbeats 400000 in
theorem refTakes1_12  (w : World) : Calls Try.prog 16 #[.int .u8 12, .bool false] w fun e w' => e = .returned (.bool (tk1 12)) ∧ w' = w := by
  go_enter Try.func16, Try.ntmps16
  go_wp2
  all_goals
    go_ret
    exact ⟨ret_b (by simp [tk1]), rfl⟩

set_option maxHeartbeats 400000 in
theorem refTakes1_13  (w : World) : Calls Try.prog 16 #[.int .u8 13, .bool false] w fun e w' => e = .returned (.bool (tk1 13)) ∧ w' = w := by
  go_enter Try.func16, Try.ntmps16
  go_wp2
  all_goals
    go_ret
    exact ⟨ret_b (by simp [tk1]), rfl⟩

set_option maxHeartbeats 400000 in
theorem refTakes1_14  (w : World) : Calls Try.prog 16 #[.int .u8 14, .bool false] w fun e w' => e = .returned (.bool (tk1 14)) ∧ w' = w := by
  go_enter Try.func16, Try.ntmps16
  go_wp2
  all_goals
    go_ret
    exact ⟨ret_b (by simp [tk1]), rfl⟩

set_option maxHeartbeats 400000 in
theorem refTakes1_15  (w : World) : Calls Try.prog 16 #[.int .u8 15, .bool false] w fun e w' => e = .returned (.bool (tk1 15)) ∧ w' = w := by
  go_enter Try.func16, Try.ntmps16
  go_wp2
  all_goals
    go_ret
    exact ⟨ret_b (by simp [tk1]), rfl⟩

set_option maxHeartbeats 400000 in
theorem refTakes1_16  (w : World) : Calls Try.prog 16 #[.int .u8 16, .bool false] w fun e w' => e = .returned (.bool (tk1 16)) ∧ w' = w := by
  go_enter Try.func16, Try.ntmps16
  go_wp2
  all_goals
    go_ret
    exact ⟨ret_b (by simp [tk1]), rfl⟩

set_option maxHeartbeats 400000 in
theorem refTakes1_17  (w : World) : Calls Try.prog 16 #[.int .u8 17, .bool false] w fun e w' => e = .returned (.bool (tk1 17)) ∧ w' = w := by
  go_enter Try.func16, Try.ntmps16
  go_wp2
  all_goals
    go_ret
    exact ⟨ret_b (by simp [tk1]), rfl⟩

set_option maxHeartbeats 400000 in
theorem refTakes1_hi (f : Int) (h : 18 ≤ f)  (w : World) : Calls Try.prog 16 #[.int .u8 f, .bool false] w fun e w' => e = .returned (.bool (tk1 f)) ∧ w' = w := by
  have hh : ¬ f ≤ 17 := by omega
  have hh2 : ¬ f ≤ 7 := by omega
  have n1 : (f == 1) = false := by simp; omega
  have n2 : (f == 2) = false := by simp; omega
  have n3 : (f == 3) = false := by simp; omega
  have n4 : (f == 4) = false := by simp; omega
  have n5 : (f == 5) = false := by simp; omega
  have n6 : (f == 6) = false := by simp; omega
  have n7 : (f == 7) = false := by simp; omega
  have n8 : (f == 8) = false := by simp; omega
  have n9 : (f == 9) = false := by simp; omega
  have n10 : (f == 10) = false := by simp; omega
  have n11 : (f == 11) = false := by simp; omega
  have n12 : (f == 12) = false := by simp; omega
  have n13 : (f == 13) = false := by simp; omega
  have n14 : (f == 14) = false := by simp; omega
  have n15 : (f == 15) = false := by simp; omega
  have n16 : (f == 16) = false := by simp; omega
  have n17 : (f == 17) = false := by simp; omega
  go_enter Try.func16, Try.ntmps16
  go_wp2
  all_goals
    go_ret
    exact ⟨ret_b (by simp [tk1]; omega), rfl⟩

theorem refTakes1_any (f : Int) (hf : 0 ≤ f)  (w : World) : Calls Try.prog 16 #[.int .u8 f, .bool false] w fun e w' => e = .returned (.bool (tk1 f)) ∧ w' = w := by
  rcases (by omega : f = 0 ∨ f = 1 ∨ f = 2 ∨ f = 3 ∨ f = 4 ∨ f = 5 ∨ f = 6 ∨ f = 7 ∨ f = 8 ∨ f = 9 ∨ f = 10 ∨ f = 11 ∨ f = 12 ∨ f = 13 ∨ f = 14 ∨ f = 15 ∨ f = 16 ∨ f = 17 ∨ 18 ≤ f) with rfl | rfl | rfl | rfl | rfl | rfl | rfl | rfl | rfl | rfl | rfl | rfl | rfl | rfl | rfl | rfl | rfl | rfl | h
  · exact refTakes1_0  w
  · exact refTakes1_1  w
  · exact refTakes1_2  w
  · exact refTakes1_3  w
  · exact refTakes1_4  w
  · exact refTakes1_5  w
  · exact refTakes1_6  w
  · exact refTakes1_7  w
  · exact refTakes1_8  w
  · exact refTakes1_9  w
  · exact refTakes1_10  w
  · exact refTakes1_11  w
  · exact refTakes1_12  w
  · exact refTakes1_13  w
  · exact refTakes1_14  w
  · exact refTakes1_15  w
  · exact refTakes1_16  w
  · exact refTakes1_17  w
  · exact refTakes1_hi f h  w

set_option maxHeartbeats 400000 in
theorem refScans_0  (w : World) : Calls Try.prog 23 #[.int .u8 0] w fun e w' => e = .returned (.bool (sc 0)) ∧ w' = w := by
  go_enter Try.func23, Try.ntmps23
  go_wp2
  all_goals
    go_ret
    exact ⟨ret_b (by simp [sc]), rfl⟩

set_option maxHeartbeats 400000 in
theorem refScans_1  (w : World) : Calls Try.prog 23 #[.int .u8 1] w fun e w' => e = .returned (.bool (sc 1)) ∧ w' = w := by
  go_enter Try.func23, Try.ntmps23
  go_wp2
  all_goals
    go_ret
    exact ⟨ret_b (by simp [sc]), rfl⟩

set_option maxHeartbeats 400000 in
theorem refScans_2  (w : World) : Calls Try.prog 23 #[.int .u8 2] w fun e w' => e = .returned (.bool (sc 2)) ∧ w' = w := by
  go_enter Try.func23, Try.ntmps23
  go_wp2
  all_goals
    go_ret
    exact ⟨ret_b (by simp [sc]), rfl⟩

set_option maxHeartbeats 400000 in
theorem refScans_3  (w : World) : Calls Try.prog 23 #[.int .u8 3] w fun e w' => e = .returned (.bool (sc 3)) ∧ w' = w := by
  go_enter Try.func23, Try.ntmps23
  go_wp2
  all_goals
    go_ret
    exact ⟨ret_b (by simp [sc]), rfl⟩

set_option maxHeartbeats 400000 in
theorem refScans_4  (w : World) : Calls Try.prog 23 #[.int .u8 4] w fun e w' => e = .returned (.bool (sc 4)) ∧ w' = w := by
  go_enter Try.func23, Try.ntmps23
  go_wp2
  all_goals
    go_ret
    exact ⟨ret_b (by simp [sc]), rfl⟩

set_option maxHeartbeats 400000 in
theorem refScans_5  (w : World) : Calls Try.prog 23 #[.int .u8 5] w fun e w' => e = .returned (.bool (sc 5)) ∧ w' = w := by
  go_enter Try.func23, Try.ntmps23
  go_wp2
  all_goals
    go_ret
    exact ⟨ret_b (by simp [sc]), rfl⟩

set_option maxHeartbeats 400000 in
theorem refScans_6  (w : World) : Calls Try.prog 23 #[.int .u8 6] w fun e w' => e = .returned (.bool (sc 6)) ∧ w' = w := by
  go_enter Try.func23, Try.ntmps23
  go_wp2
  all_goals
    go_ret
    exact ⟨ret_b (by simp [sc]), rfl⟩

set_option maxHeartbeats 400000 in
theorem refScans_7  (w : World) : Calls Try.prog 23 #[.int .u8 7] w fun e w' => e = .returned (.bool (sc 7)) ∧ w' = w := by
  go_enter Try.func23, Try.ntmps23
  go_wp2
  all_goals
    go_ret
    exact ⟨ret_b (by simp [sc]), rfl⟩

set_option maxHeartbeats 400000 in
theorem refScans_8  (w : World) : Calls Try.prog 23 #[.int .u8 8] w fun e w' => e = .returned (.bool (sc 8)) ∧ w' = w := by
  go_enter Try.func23, Try.ntmps23
  go_wp2
  all_goals
    go_ret
    exact ⟨ret_b (by simp [sc]), rfl⟩

set_option maxHeartbeats 400000 in
theorem refScans_9  (w : World) : Calls Try.prog 23 #[.int .u8 9] w fun e w' => e = .returned (.bool (sc 9)) ∧ w' = w := by
  go_enter Try.func23, Try.ntmps23
  go_wp2
  all_goals
    go_ret
    exact ⟨ret_b (by simp [sc]), rfl⟩

set_option maxHeartbeats 400000 in
theorem refScans_10  (w : World) : Calls Try.prog 23 #[.int .u8 10] w fun e w' => e = .returned (.bool (sc 10)) ∧ w' = w := by
  go_enter Try.func23, Try.ntmps23
  go_wp2
  all_goals
    go_ret
    exact ⟨ret_b (by simp [sc]), rfl⟩

set_option maxHeartbeats 400000 in
theorem refScans_11  (w : World) : Calls Try.prog 23 #[.int .u8 11] w fun e w' => e = .returned (.bool (sc 11)) ∧ w' = w := by
  go_enter Try.func23, Try.ntmps23
  go_wp2
  all_goals
    go_ret
    exact ⟨ret_b (by simp [sc]), rfl⟩

set_option maxHeartbeats 400000 in
theorem refScans_12  (w : World) : Calls Try.prog 23 #[.int .u8 12] w fun e w' => e = .returned (.bool (sc 12)) ∧ w' = w := by
  go_enter Try.func23, Try.ntmps23
  go_wp2
  all_goals
    go_ret
    exact ⟨ret_b (by simp [sc]), rfl⟩

set_option maxHeartbeats 400000 in
theorem refScans_13  (w : World) : Calls Try.prog 23 #[.int .u8 13] w fun e w' => e = .returned (.bool (sc 13)) ∧ w' = w := by
  go_enter Try.func23, Try.ntmps23
  go_wp2
  all_goals
    go_ret
    exact ⟨ret_b (by simp [sc]), rfl⟩

set_option maxHeartbeats 400000 in
theorem refScans_14  (w : World) : Calls Try.prog 23 #[.int .u8 14] w fun e w' => e = .returned (.bool (sc 14)) ∧ w' = w := by
  go_enter Try.func23, Try.ntmps23
  go_wp2
  all_goals
    go_ret
    exact ⟨ret_b (by simp [sc]), rfl⟩

set_option maxHeartbeats 400000 in
theorem refScans_15  (w : World) : Calls Try.prog 23 #[.int .u8 15] w fun e w' => e = .returned (.bool (sc 15)) ∧ w' = w := by
  go_enter Try.func23, Try.ntmps23
  go_wp2
  all_goals
    go_ret
    exact ⟨ret_b (by simp [sc]), rfl⟩

set_option maxHeartbeats 400000 in
theorem refScans_16  (w : World) : Calls Try.prog 23 #[.int .u8 16] w fun e w' => e = .returned (.bool (sc 16)) ∧ w' = w := by
  go_enter Try.func23, Try.ntmps23
  go_wp2
  all_goals
    go_ret
    exact ⟨ret_b (by simp [sc]), rfl⟩

set_option maxHeartbeats 400000 in
theorem refScans_17  (w : World) : Calls Try.prog 23 #[.int .u8 17] w fun e w' => e = .returned (.bool (sc 17)) ∧ w' = w := by
  go_enter Try.func23, Try.ntmps23
  go_wp2
  all_goals
    go_ret
    exact ⟨ret_b (by simp [sc]), rfl⟩

set_option maxHeartbeats 400000 in
theorem refScans_hi (f : Int) (h : 18 ≤ f)  (w : World) : Calls Try.prog 23 #[.int .u8 f] w fun e w' => e = .returned (.bool (sc f)) ∧ w' = w := by
  have n1 : (f == 1) = false := by simp; omega
  have n2 : (f == 2) = false := by simp; omega
  have n3 : (f == 3) = false := by simp; omega
  have n4 : (f == 4) = false := by simp; omega
  have n5 : (f == 5) = false := by simp; omega
  have n6 : (f == 6) = false := by simp; omega
  have n7 : (f == 7) = false := by simp; omega
  have n8 : (f == 8) = false := by simp; omega
  have n9 : (f == 9) = false := by simp; omega
  have n10 : (f == 10) = false := by simp; omega
  have n11 : (f == 11) = false := by simp; omega
  have n12 : (f == 12) = false := by simp; omega
  have n13 : (f == 13) = false := by simp; omega
  have n14 : (f == 14) = false := by simp; omega
  have n15 : (f == 15) = false := by simp; omega
  have n16 : (f == 16) = false := by simp; omega
  have n17 : (f == 17) = false := by simp; omega
  go_enter Try.func23, Try.ntmps23
  go_wp2
  all_goals
    go_ret
    exact ⟨ret_b (by simp [sc]; omega), rfl⟩

theorem refScans_any (f : Int) (hf : 0 ≤ f)  (w : World) : Calls Try.prog 23 #[.int .u8 f] w fun e w' => e = .returned (.bool (sc f)) ∧ w' = w := by
  rcases (by omega : f = 0 ∨ f = 1 ∨ f = 2 ∨ f = 3 ∨ f = 4 ∨ f = 5 ∨ f = 6 ∨ f = 7 ∨ f = 8 ∨ f = 9 ∨ f = 10 ∨ f = 11 ∨ f = 12 ∨ f = 13 ∨ f = 14 ∨ f = 15 ∨ f = 16 ∨ f = 17 ∨ 18 ≤ f) with rfl | rfl | rfl | rfl | rfl | rfl | rfl | rfl | rfl | rfl | rfl | rfl | rfl | rfl | rfl | rfl | rfl | rfl | h
  · exact refScans_0  w
  · exact refScans_1  w
  · exact refScans_2  w
  · exact refScans_3  w
  · exact refScans_4  w
  · exact refScans_5  w
  · exact refScans_6  w
  · exact refScans_7  w
  · exact refScans_8  w
  · exact refScans_9  w
  · exact refScans_10  w
  · exact refScans_11  w
  · exact refScans_12  w
  · exact refScans_13  w
  · exact refScans_14  w
  · exact refScans_15  w
  · exact refScans_16  w
  · exact refScans_17  w
  · exact refScans_hi f h  w

set_option maxHeartbeats 400000 in
theorem refUnit_0  (w : World) : Calls Try.prog 20 #[.int .u8 0] w fun e w' => e = .returned (.tuple #[.int .i64 (uv 0), .bool (ub 0)]) ∧ w' = w := by
  go_enter Try.func20, Try.ntmps20
  go_wp2
  all_goals
    go_ret2
    exact ⟨ret_i64b (by simp [uv]) (by simp [ub]), rfl⟩

set_option maxHeartbeats 400000 in
theorem refUnit_1  (w : World) : Calls Try.prog 20 #[.int .u8 1] w fun e w' => e = .returned (.tuple #[.int .i64 (uv 1), .bool (ub 1)]) ∧ w' = w := by
  go_enter Try.func20, Try.ntmps20
  go_wp2
  all_goals
    go_ret2
    exact ⟨ret_i64b (by simp [uv]) (by simp [ub]), rfl⟩

set_option maxHeartbeats 400000 in
theorem refUnit_2  (w : World) : Calls Try.prog 20 #[.int .u8 2] w fun e w' => e = .returned (.tuple #[.int .i64 (uv 2), .bool (ub 2)]) ∧ w' = w := by
  go_enter Try.func20, Try.ntmps20
  go_wp2
  all_goals
    go_ret2
    exact ⟨ret_i64b (by simp [uv]) (by simp [ub]), rfl⟩

set_option maxHeartbeats 400000 in
theorem refUnit_3  (w : World) : Calls Try.prog 20 #[.int .u8 3] w fun e w' => e = .returned (.tuple #[.int .i64 (uv 3), .bool (ub 3)]) ∧ w' = w := by
  go_enter Try.func20, Try.ntmps20
  go_wp2
  all_goals
    go_ret2
    exact ⟨ret_i64b (by simp [uv]) (by simp [ub]), rfl⟩

set_option maxHeartbeats 400000 in
theorem refUnit_4  (w : World) : Calls Try.prog 20 #[.int .u8 4] w fun e w' => e = .returned (.tuple #[.int .i64 (uv 4), .bool (ub 4)]) ∧ w' = w := by
  go_enter Try.func20, Try.ntmps20
  go_wp2
  all_goals
    go_ret2
    exact ⟨ret_i64b (by simp [uv]) (by simp [ub]), rfl⟩

set_option maxHeartbeats 400000 in
theorem refUnit_5  (w : World) : Calls Try.prog 20 #[.int .u8 5] w fun e w' => e = .returned (.tuple #[.int .i64 (uv 5), .bool (ub 5)]) ∧ w' = w := by
  go_enter Try.func20, Try.ntmps20
  go_wp2
  all_goals
    go_ret2
    exact ⟨ret_i64b (by simp [uv]) (by simp [ub]), rfl⟩

set_option maxHeartbeats 400000 in
theorem refUnit_6  (w : World) : Calls Try.prog 20 #[.int .u8 6] w fun e w' => e = .returned (.tuple #[.int .i64 (uv 6), .bool (ub 6)]) ∧ w' = w := by
  go_enter Try.func20, Try.ntmps20
  go_wp2
  all_goals
    go_ret2
    exact ⟨ret_i64b (by simp [uv]) (by simp [ub]), rfl⟩

set_option maxHeartbeats 400000 in
theorem refUnit_7  (w : World) : Calls Try.prog 20 #[.int .u8 7] w fun e w' => e = .returned (.tuple #[.int .i64 (uv 7), .bool (ub 7)]) ∧ w' = w := by
  go_enter Try.func20, Try.ntmps20
  go_wp2
  all_goals
    go_ret2
    exact ⟨ret_i64b (by simp [uv]) (by simp [ub]), rfl⟩

set_option maxHeartbeats 400000 in
theorem refUnit_8  (w : World) : Calls Try.prog 20 #[.int .u8 8] w fun e w' => e = .returned (.tuple #[.int .i64 (uv 8), .bool (ub 8)]) ∧ w' = w := by
  go_enter Try.func20, Try.ntmps20
  go_wp2
  all_goals
    go_ret2
    exact ⟨ret_i64b (by simp [uv]) (by simp [ub]), rfl⟩

set_option maxHeartbeats 400000 in
theorem refUnit_9  (w : World) : Calls Try.prog 20 #[.int .u8 9] w fun e w' => e = .returned (.tuple #[.int .i64 (uv 9), .bool (ub 9)]) ∧ w' = w := by
  go_enter Try.func20, Try.ntmps20
  go_wp2
  all_goals
    go_ret2
    exact ⟨ret_i64b (by simp [uv]) (by simp [ub]), rfl⟩

set_option maxHeartbeats 400000 in
theorem refUnit_10  (w : World) : Calls Try.prog 20 #[.int .u8 10] w fun e w' => e = .returned (.tuple #[.int .i64 (uv 10), .bool (ub 10)]) ∧ w' = w := by
  go_enter Try.func20, Try.ntmps20
  go_wp2
  all_goals
    go_ret2
    exact ⟨ret_i64b (by simp [uv]) (by simp [ub]), rfl⟩

set_option maxHeartbeats 400000 in
theorem refUnit_11  (w : World) : Calls Try.prog 20 #[.int .u8 11] w fun e w' => e = .returned (.tuple #[.int .i64 (uv 11), .bool (ub 11)]) ∧ w' = w := by
  go_enter Try.func20, Try.ntmps20
  go_wp2
  all_goals
    go_ret2
    exact ⟨ret_i64b (by simp [uv]) (by simp [ub]), rfl⟩

set_option maxHeartbeats 400000 in
theorem refUnit_12  (w : World) : Calls Try.prog 20 #[.int .u8 12] w fun e w' => e = .returned (.tuple #[.int .i64 (uv 12), .bool (ub 12)]) ∧ w' = w := by
  go_enter Try.func20, Try.ntmps20
  go_wp2
  all_goals
    go_ret2
    exact ⟨ret_i64b (by simp [uv]) (by simp [ub]), rfl⟩

set_option maxHeartbeats 400000 in
theorem refUnit_13  (w : World) : Calls Try.prog 20 #[.int .u8 13] w fun e w' => e = .returned (.tuple #[.int .i64 (uv 13), .bool (ub 13)]) ∧ w' = w := by
  go_enter Try.func20, Try.ntmps20
  go_wp2
  all_goals
    go_ret2
    exact ⟨ret_i64b (by simp [uv]) (by simp [ub]), rfl⟩

set_option maxHeartbeats 400000 in
theorem refUnit_14  (w : World) : Calls Try.prog 20 #[.int .u8 14] w fun e w' => e = .returned (.tuple #[.int .i64 (uv 14), .bool (ub 14)]) ∧ w' = w := by
  go_enter Try.func20, Try.ntmps20
  go_wp2
  all_goals
    go_ret2
    exact ⟨ret_i64b (by simp [uv]) (by simp [ub]), rfl⟩

set_option maxHeartbeats 400000 in
theorem refUnit_15  (w : World) : Calls Try.prog 20 #[.int .u8 15] w fun e w' => e = .returned (.tuple #[.int .i64 (uv 15), .bool (ub 15)]) ∧ w' = w := by
  go_enter Try.func20, Try.ntmps20
  go_wp2
  all_goals
    go_ret2
    exact ⟨ret_i64b (by simp [uv]) (by simp [ub]), rfl⟩

set_option maxHeartbeats 400000 in
theorem refUnit_16  (w : World) : Calls Try.prog 20 #[.int .u8 16] w fun e w' => e = .returned (.tuple #[.int .i64 (uv 16), .bool (ub 16)]) ∧ w' = w := by
  go_enter Try.func20, Try.ntmps20
  go_wp2
  all_goals
    go_ret2
    exact ⟨ret_i64b (by simp [uv]) (by simp [ub]), rfl⟩

set_option maxHeartbeats 400000 in
theorem refUnit_17  (w : World) : Calls Try.prog 20 #[.int .u8 17] w fun e w' => e = .returned (.tuple #[.int .i64 (uv 17), .bool (ub 17)]) ∧ w' = w := by
  go_enter Try.func20, Try.ntmps20
  go_wp2
  all_goals
    go_ret2
    exact ⟨ret_i64b (by simp [uv]) (by simp [ub]), rfl⟩

set_option maxHeartbeats 400000 in
theorem refUnit_hi (f : Int) (h : 18 ≤ f)  (w : World) : Calls Try.prog 20 #[.int .u8 f] w fun e w' => e = .returned (.tuple #[.int .i64 (uv f), .bool (ub f)]) ∧ w' = w := by
  have n1 : (f == 1) = false := by simp; omega
  have n2 : (f == 2) = false := by simp; omega
  have n3 : (f == 3) = false := by simp; omega
  have n4 : (f == 4) = false := by simp; omega
  have n5 : (f == 5) = false := by simp; omega
  have n6 : (f == 6) = false := by simp; omega
  have n7 : (f == 7) = false := by simp; omega
  have n8 : (f == 8) = false := by simp; omega
  have n9 : (f == 9) = false := by simp; omega
  have n10 : (f == 10) = false := by simp; omega
  have n11 : (f == 11) = false := by simp; omega
  have n12 : (f == 12) = false := by simp; omega
  have n13 : (f == 13) = false := by simp; omega
  have n14 : (f == 14) = false := by simp; omega
  have n15 : (f == 15) = false := by simp; omega
  have n16 : (f == 16) = false := by simp; omega
  have n17 : (f == 17) = false := by simp; omega
  go_enter Try.func20, Try.ntmps20
  go_wp2
  all_goals
    go_ret2
    exact ⟨ret_i64b (by simp [uv]; omega) (by simp [ub]; omega), rfl⟩

theorem refUnit_any (f : Int) (hf : 0 ≤ f)  (w : World) : Calls Try.prog 20 #[.int .u8 f] w fun e w' => e = .returned (.tuple #[.int .i64 (uv f), .bool (ub f)]) ∧ w' = w := by
  rcases (by omega : f = 0 ∨ f = 1 ∨ f = 2 ∨ f = 3 ∨ f = 4 ∨ f = 5 ∨ f = 6 ∨ f = 7 ∨ f = 8 ∨ f = 9 ∨ f = 10 ∨ f = 11 ∨ f = 12 ∨ f = 13 ∨ f = 14 ∨ f = 15 ∨ f = 16 ∨ f = 17 ∨ 18 ≤ f) with rfl | rfl | rfl | rfl | rfl | rfl | rfl | rfl | rfl | rfl | rfl | rfl | rfl | rfl | rfl | rfl | rfl | rfl | h
  · exact refUnit_0  w
  · exact refUnit_1  w
  · exact refUnit_2  w
  · exact refUnit_3  w
  · exact refUnit_4  w
  · exact refUnit_5  w
  · exact refUnit_6  w
  · exact refUnit_7  w
  · exact refUnit_8  w
  · exact refUnit_9  w
  · exact refUnit_10  w
  · exact refUnit_11  w
  · exact refUnit_12  w
  · exact refUnit_13  w
  · exact refUnit_14  w
  · exact refUnit_15  w
  · exact refUnit_16  w
  · exact refUnit_17  w
  · exact refUnit_hi f h  w

set_option maxHeartbeats 400000 in
theorem refTotal2_0  (w : World) : Calls Try.prog 24 #[.int .u8 0, .bool true] w fun e w' => e = .returned (.bool (tot2 0)) ∧ w' = w := by
  go_enter Try.func24, Try.ntmps24
  go_wp2_with (go_at_call 16; refine (refTakes2_0 _).mono ?_; rintro e w' ⟨rfl, rfl⟩)
  all_goals
    go_ret
    exact ⟨ret_b (by decide), rfl⟩

set_option maxHeartbeats 400000 in
theorem refTotal2_1  (w : World) : Calls Try.prog 24 #[.int .u8 1, .bool true] w fun e w' => e = .returned (.bool (tot2 1)) ∧ w' = w := by
  go_enter Try.func24, Try.ntmps24
  go_wp2_with (go_at_call 16; refine (refTakes2_1 _).mono ?_; rintro e w' ⟨rfl, rfl⟩)
  all_goals
    go_ret
    exact ⟨ret_b (by decide), rfl⟩

set_option maxHeartbeats 400000 in
theorem refTotal2_2  (w : World) : Calls Try.prog 24 #[.int .u8 2, .bool true] w fun e w' => e = .returned (.bool (tot2 2)) ∧ w' = w := by
  go_enter Try.func24, Try.ntmps24
  go_wp2_with (go_at_call 16; refine (refTakes2_2 _).mono ?_; rintro e w' ⟨rfl, rfl⟩)
  all_goals
    go_ret
    exact ⟨ret_b (by decide), rfl⟩

set_option maxHeartbeats 400000 in
theorem refTotal2_3  (w : World) : Calls Try.prog 24 #[.int .u8 3, .bool true] w fun e w' => e = .returned (.bool (tot2 3)) ∧ w' = w := by
  go_enter Try.func24, Try.ntmps24
  go_wp2_with (go_at_call 16; refine (refTakes2_3 _).mono ?_; rintro e w' ⟨rfl, rfl⟩)
  all_goals
    go_ret
    exact ⟨ret_b (by decide), rfl⟩

set_option maxHeartbeats 400000 in
theorem refTotal2_4  (w : World) : Calls Try.prog 24 #[.int .u8 4, .bool true] w fun e w' => e = .returned (.bool (tot2 4)) ∧ w' = w := by
  go_enter Try.func24, Try.ntmps24
  go_wp2_with (go_at_call 16; refine (refTakes2_4 _).mono ?_; rintro e w' ⟨rfl, rfl⟩)
  all_goals
    go_ret
    exact ⟨ret_b (by decide), rfl⟩

set_option maxHeartbeats 400000 in
theorem refTotal2_5  (w : World) : Calls Try.prog 24 #[.int .u8 5, .bool true] w fun e w' => e = .returned (.bool (tot2 5)) ∧ w' = w := by
  go_enter Try.func24, Try.ntmps24
  go_wp2_with (go_at_call 16; refine (refTakes2_5 _).mono ?_; rintro e w' ⟨rfl, rfl⟩)
  all_goals
    go_ret
    exact ⟨ret_b (by decide), rfl⟩

set_option maxHeartbeats 400000 in
theorem refTotal2_6  (w : World) : Calls Try.prog 24 #[.int .u8 6, .bool true] w fun e w' => e = .returned (.bool (tot2 6)) ∧ w' = w := by
  go_enter Try.func24, Try.ntmps24
  go_wp2_with (go_at_call 16; refine (refTakes2_6 _).mono ?_; rintro e w' ⟨rfl, rfl⟩)
  all_goals
    go_ret
    exact ⟨ret_b (by decide), rfl⟩

set_option maxHeartbeats 400000 in
theorem refTotal2_7  (w : World) : Calls Try.prog 24 #[.int .u8 7, .bool true] w fun e w' => e = .returned (.bool (tot2 7)) ∧ w' = w := by
  go_enter Try.func24, Try.ntmps24
  go_wp2_with (go_at_call 16; refine (refTakes2_7 _).mono ?_; rintro e w' ⟨rfl, rfl⟩)
  all_goals
    go_ret
    exact ⟨ret_b (by decide), rfl⟩

set_option maxHeartbeats 400000 in
theorem refTotal2_8  (w : World) : Calls Try.prog 24 #[.int .u8 8, .bool true] w fun e w' => e = .returned (.bool (tot2 8)) ∧ w' = w := by
  go_enter Try.func24, Try.ntmps24
  go_wp2_with (go_at_call 16; refine (refTakes2_8 _).mono ?_; rintro e w' ⟨rfl, rfl⟩)
  all_goals
    go_ret
    exact ⟨ret_b (by decide), rfl⟩

set_option maxHeartbeats 400000 in
theorem refTotal2_9  (w : World) : Calls Try.prog 24 #[.int .u8 9, .bool true] w fun e w' => e = .returned (.bool (tot2 9)) ∧ w' = w := by
  go_enter Try.func24, Try.ntmps24
  go_wp2_with (go_at_call 16; refine (refTakes2_9 _).mono ?_; rintro e w' ⟨rfl, rfl⟩)
  all_goals
    go_ret
    exact ⟨ret_b (by decide), rfl⟩

set_option maxHeartbeats 400000 in
theorem refTotal2_10  (w : World) : Calls Try.prog 24 #[.int .u8 10, .bool true] w fun e w' => e = .returned (.bool (tot2 10)) ∧ w' = w := by
  go_enter Try.func24, Try.ntmps24
  go_wp2_with (go_at_call 16; refine (refTakes2_10 _).mono ?_; rintro e w' ⟨rfl, rfl⟩)
  all_goals
    go_ret
    exact ⟨ret_b (by decide), rfl⟩

set_option maxHeartbeats 400000 in
theorem refTotal2_11  (w : World) : Calls Try.prog 24 #[.int .u8 11, .bool true] w fun e w' => e = .returned (.bool (tot2 11)) ∧ w' = w := by
  go_enter Try.func24, Try.ntmps24
  go_wp2_with (go_at_call 16; refine (refTakes2_11 _).mono ?_; rintro e w' ⟨rfl, rfl⟩)
  all_goals
    go_ret
    exact ⟨ret_b (by decide), rfl⟩

set_option maxHeartbeats 400000 in
theorem refTotal2_12  (w : World) : Calls Try.prog 24 #[.int .u8 12, .bool true] w fun e w' => e = .returned (.bool (tot2 12)) ∧ w' = w := by
  go_enter Try.func24, Try.ntmps24
  go_wp2_with (go_at_call 16; refine (refTakes2_12 _).mono ?_; rintro e w' ⟨rfl, rfl⟩)
  all_goals
    go_ret
    exact ⟨ret_b (by decide), rfl⟩

set_option maxHeartbeats 400000 in
theorem refTotal2_13  (w : World) : Calls Try.prog 24 #[.int .u8 13, .bool true] w fun e w' => e = .returned (.bool (tot2 13)) ∧ w' = w := by
  go_enter Try.func24, Try.ntmps24
  go_wp2_with (go_at_call 16; refine (refTakes2_13 _).mono ?_; rintro e w' ⟨rfl, rfl⟩)
  all_goals
    go_ret
    exact ⟨ret_b (by decide), rfl⟩

set_option maxHeartbeats 400000 in
theorem refTotal2_14  (w : World) : Calls Try.prog 24 #[.int .u8 14, .bool true] w fun e w' => e = .returned (.bool (tot2 14)) ∧ w' = w := by
  go_enter Try.func24, Try.ntmps24
  go_wp2_with (go_at_call 16; refine (refTakes2_14 _).mono ?_; rintro e w' ⟨rfl, rfl⟩)
  all_goals
    go_ret
    exact ⟨ret_b (by decide), rfl⟩

set_option maxHeartbeats 400000 in
theorem refTotal2_15  (w : World) : Calls Try.prog 24 #[.int .u8 15, .bool true] w fun e w' => e = .returned (.bool (tot2 15)) ∧ w' = w := by
  go_enter Try.func24, Try.ntmps24
  go_wp2_with (go_at_call 16; refine (refTakes2_15 _).mono ?_; rintro e w' ⟨rfl, rfl⟩)
  all_goals
    go_ret
    exact ⟨ret_b (by decide), rfl⟩

set_option maxHeartbeats 400000 in
theorem refTotal2_16  (w : World) : Calls Try.prog 24 #[.int .u8 16, .bool true] w fun e w' => e = .returned (.bool (tot2 16)) ∧ w' = w := by
  go_enter Try.func24, Try.ntmps24
  go_wp2_with (go_at_call 16; refine (refTakes2_16 _).mono ?_; rintro e w' ⟨rfl, rfl⟩)
  all_goals
    go_ret
    exact ⟨ret_b (by decide), rfl⟩

set_option maxHeartbeats 400000 in
theorem refTotal2_17  (w : World) : Calls Try.prog 24 #[.int .u8 17, .bool true] w fun e w' => e = .returned (.bool (tot2 17)) ∧ w' = w := by
  go_enter Try.func24, Try.ntmps24
  go_wp2_with (go_at_call 16; refine (refTakes2_17 _).mono ?_; rintro e w' ⟨rfl, rfl⟩)
  all_goals
    go_ret
    exact ⟨ret_b (by decide), rfl⟩

set_option maxHeartbeats 400000 in
theorem refTotal2_hi (f : Int) (h : 18 ≤ f)  (w : World) : Calls Try.prog 24 #[.int .u8 f, .bool true] w fun e w' => e = .returned (.bool (tot2 f)) ∧ w' = w := by
  have hh := Lib.hid h
  have n1 : (f == 1) = false := by simp; omega
  have n2 : (f == 2) = false := by simp; omega
  have n3 : (f == 3) = false := by simp; omega
  have n4 : (f == 4) = false := by simp; omega
  have n5 : (f == 5) = false := by simp; omega
  have n6 : (f == 6) = false := by simp; omega
  have n7 : (f == 7) = false := by simp; omega
  have n8 : (f == 8) = false := by simp; omega
  have n9 : (f == 9) = false := by simp; omega
  have n10 : (f == 10) = false := by simp; omega
  have n11 : (f == 11) = false := by simp; omega
  have n12 : (f == 12) = false := by simp; omega
  have n13 : (f == 13) = false := by simp; omega
  have n14 : (f == 14) = false := by simp; omega
  have n15 : (f == 15) = false := by simp; omega
  have n16 : (f == 16) = false := by simp; omega
  have n17 : (f == 17) = false := by simp; omega
  go_enter Try.func24, Try.ntmps24
  go_wp2_with (go_at_call 16; refine (refTakes2_hi _ hh.out _).mono ?_; rintro e w' ⟨rfl, rfl⟩)
  all_goals
    go_ret
    exact ⟨ret_b (by rw [tot2_hi f hh.out, tk2_hi f hh.out]), rfl⟩

theorem refTotal2_any (f : Int) (hf : 0 ≤ f)  (w : World) : Calls Try.prog 24 #[.int .u8 f, .bool true] w fun e w' => e = .returned (.bool (tot2 f)) ∧ w' = w := by
  rcases (by omega : f = 0 ∨ f = 1 ∨ f = 2 ∨ f = 3 ∨ f = 4 ∨ f = 5 ∨ f = 6 ∨ f = 7 ∨ f = 8 ∨ f = 9 ∨ f = 10 ∨ f = 11 ∨ f = 12 ∨ f = 13 ∨ f = 14 ∨ f = 15 ∨ f = 16 ∨ f = 17 ∨ 18 ≤ f) with rfl | rfl | rfl | rfl | rfl | rfl | rfl | rfl | rfl | rfl | rfl | rfl | rfl | rfl | rfl | rfl | rfl | rfl | h
  · exact refTotal2_0  w
  · exact refTotal2_1  w
  · exact refTotal2_2  w
  · exact refTotal2_3  w
  · exact refTotal2_4  w
  · exact refTotal2_5  w
  · exact refTotal2_6  w
  · exact refTotal2_7  w
  · exact refTotal2_8  w
  · exact refTotal2_9  w
  · exact refTotal2_10  w
  · exact refTotal2_11  w
  · exact refTotal2_12  w
  · exact refTotal2_13  w
  · exact refTotal2_14  w
  · exact refTotal2_15  w
  · exact refTotal2_16  w
  · exact refTotal2_17  w
  · exact refTotal2_hi f h  w

set_option maxHeartbeats 400000 in
theorem refTotal1_0  (w : World) : Calls Try.prog 24 #[.int .u8 0, .bool false] w fun e w' => e = .returned (.bool (tot1 0)) ∧ w' = w := by
  go_enter Try.func24, Try.ntmps24
  go_wp2_with (go_at_call 16; refine (refTakes1_0 _).mono ?_; rintro e w' ⟨rfl, rfl⟩)
  all_goals
    go_ret
    exact ⟨ret_b (by decide), rfl⟩

set_option maxHeartbeats 400000 in
theorem refTotal1_1  (w : World) : Calls Try.prog 24 #[.int .u8 1, .bool false] w fun e w' => e = .returned (.bool (tot1 1)) ∧ w' = w := by
  go_enter Try.func24, Try.ntmps24
  go_wp2_with (go_at_call 16; refine (refTakes1_1 _).mono ?_; rintro e w' ⟨rfl, rfl⟩)
  all_goals
    go_ret
    exact ⟨ret_b (by decide), rfl⟩

set_option maxHeartbeats 400000 in
theorem refTotal1_2  (w : World) : Calls Try.prog 24 #[.int .u8 2, .bool false] w fun e w' => e = .returned (.bool (tot1 2)) ∧ w' = w := by
  go_enter Try.func24, Try.ntmps24
  go_wp2_with (go_at_call 16; refine (refTakes1_2 _).mono ?_; rintro e w' ⟨rfl, rfl⟩)
  all_goals
    go_ret
    exact ⟨ret_b (by decide), rfl⟩

set_option maxHeartbeats 400000 in
theorem refTotal1_3  (w : World) : Calls Try.prog 24 #[.int .u8 3, .bool false] w fun e w' => e = .returned (.bool (tot1 3)) ∧ w' = w := by
  go_enter Try.func24, Try.ntmps24
  go_wp2_with (go_at_call 16; refine (refTakes1_3 _).mono ?_; rintro e w' ⟨rfl, rfl⟩)
  all_goals
    go_ret
    exact ⟨ret_b (by decide), rfl⟩

set_option maxHeartbeats 400000 in
theorem refTotal1_4  (w : World) : Calls Try.prog 24 #[.int .u8 4, .bool false] w fun e w' => e = .returned (.bool (tot1 4)) ∧ w' = w := by
  go_enter Try.func24, Try.ntmps24
  go_wp2_with (go_at_call 16; refine (refTakes1_4 _).mono ?_; rintro e w' ⟨rfl, rfl⟩)
  all_goals
    go_ret
    exact ⟨ret_b (by decide), rfl⟩

set_option maxHeartbeats 400000 in
theorem refTotal1_5  (w : World) : Calls Try.prog 24 #[.int .u8 5, .bool false] w fun e w' => e = .returned (.bool (tot1 5)) ∧ w' = w := by
  go_enter Try.func24, Try.ntmps24
  go_wp2_with (go_at_call 16; refine (refTakes1_5 _).mono ?_; rintro e w' ⟨rfl, rfl⟩)
  all_goals
    go_ret
    exact ⟨ret_b (by decide), rfl⟩

set_option maxHeartbeats 400000 in
theorem refTotal1_6  (w : World) : Calls Try.prog 24 #[.int .u8 6, .bool false] w fun e w' => e = .returned (.bool (tot1 6)) ∧ w' = w := by
  go_enter Try.func24, Try.ntmps24
  go_wp2_with (go_at_call 16; refine (refTakes1_6 _).mono ?_; rintro e w' ⟨rfl, rfl⟩)
  all_goals
    go_ret
    exact ⟨ret_b (by decide), rfl⟩

set_option maxHeartbeats 400000 in
theorem refTotal1_7  (w : World) : Calls Try.prog 24 #[.int .u8 7, .bool false] w fun e w' => e = .returned (.bool (tot1 7)) ∧ w' = w := by
  go_enter Try.func24, Try.ntmps24
  go_wp2_with (go_at_call 16; refine (refTakes1_7 _).mono ?_; rintro e w' ⟨rfl, rfl⟩)
  all_goals
    go_ret
    exact ⟨ret_b (by decide), rfl⟩

set_option maxHeartbeats 400000 in
theorem refTotal1_8  (w : World) : Calls Try.prog 24 #[.int .u8 8, .bool false] w fun e w' => e = .returned (.bool (tot1 8)) ∧ w' = w := by
  go_enter Try.func24, Try.ntmps24
  go_wp2_with (go_at_call 16; refine (refTakes1_8 _).mono ?_; rintro e w' ⟨rfl, rfl⟩)
  all_goals
    go_ret
    exact ⟨ret_b (by decide), rfl⟩

set_option maxHeartbeats 400000 in
theorem refTotal1_9  (w : World) : Calls Try.prog 24 #[.int .u8 9, .bool false] w fun e w' => e = .returned (.bool (tot1 9)) ∧ w' = w := by
  go_enter Try.func24, Try.ntmps24
  go_wp2_with (go_at_call 16; refine (refTakes1_9 _).mono ?_; rintro e w' ⟨rfl, rfl⟩)
  all_goals
    go_ret
    exact ⟨ret_b (by decide), rfl⟩

set_option maxHeartbeats 400000 in
theorem refTotal1_10  (w : World) : Calls Try.prog 24 #[.int .u8 10, .bool false] w fun e w' => e = .returned (.bool (tot1 10)) ∧ w' = w := by
  go_enter Try.func24, Try.ntmps24
  go_wp2_with (go_at_call 16; refine (refTakes1_10 _).mono ?_; rintro e w' ⟨rfl, rfl⟩)
  all_goals
    go_ret
    exact ⟨ret_b (by decide), rfl⟩

set_option maxHeartbeats 400000 in
theorem refTotal1_11  (w : World) : Calls Try.prog 24 #[.int .u8 11, .bool false] w fun e w' => e = .returned (.bool (tot1 11)) ∧ w' = w := by
  go_enter Try.func24, Try.ntmps24
  go_wp2_with (go_at_call 16; refine (refTakes1_11 _).mono ?_; rintro e w' ⟨rfl, rfl⟩)
  all_goals
    go_ret
    exact ⟨ret_b (by decide), rfl⟩

set_option maxHeartbeats 400000 in
theorem refTotal1_12  (w : World) : Calls Try.prog 24 #[.int .u8 12, .bool false] w fun e w' => e = .returned (.bool (tot1 12)) ∧ w' = w := by
  go_enter Try.func24, Try.ntmps24
  go_wp2_with (go_at_call 16; refine (refTakes1_12 _).mono ?_; rintro e w' ⟨rfl, rfl⟩)
  all_goals
    go_ret
    exact ⟨ret_b (by decide), rfl⟩

set_option maxHeartbeats 400000 in
theorem refTotal1_13  (w : World) : Calls Try.prog 24 #[.int .u8 13, .bool false] w fun e w' => e = .returned (.bool (tot1 13)) ∧ w' = w := by
  go_enter Try.func24, Try.ntmps24
  go_wp2_with (go_at_call 16; refine (refTakes1_13 _).mono ?_; rintro e w' ⟨rfl, rfl⟩)
  all_goals
    go_ret
    exact ⟨ret_b (by decide), rfl⟩

set_option maxHeartbeats 400000 in
theorem refTotal1_14  (w : World) : Calls Try.prog 24 #[.int .u8 14, .bool false] w fun e w' => e = .returned (.bool (tot1 14)) ∧ w' = w := by
  go_enter Try.func24, Try.ntmps24
  go_wp2_with (go_at_call 16; refine (refTakes1_14 _).mono ?_; rintro e w' ⟨rfl, rfl⟩)
  all_goals
    go_ret
    exact ⟨ret_b (by decide), rfl⟩

set_option maxHeartbeats 400000 in
theorem refTotal1_15  (w : World) : Calls Try.prog 24 #[.int .u8 15, .bool false] w fun e w' => e = .returned (.bool (tot1 15)) ∧ w' = w := by
  go_enter Try.func24, Try.ntmps24
  go_wp2_with (go_at_call 16; refine (refTakes1_15 _).mono ?_; rintro e w' ⟨rfl, rfl⟩)
  all_goals
    go_ret
    exact ⟨ret_b (by decide), rfl⟩

set_option maxHeartbeats 400000 in
theorem refTotal1_16  (w : World) : Calls Try.prog 24 #[.int .u8 16, .bool false] w fun e w' => e = .returned (.bool (tot1 16)) ∧ w' = w := by
  go_enter Try.func24, Try.ntmps24
  go_wp2_with (go_at_call 16; refine (refTakes1_16 _).mono ?_; rintro e w' ⟨rfl, rfl⟩)
  all_goals
    go_ret
    exact ⟨ret_b (by decide), rfl⟩

set_option maxHeartbeats 400000 in
theorem refTotal1_17  (w : World) : Calls Try.prog 24 #[.int .u8 17, .bool false] w fun e w' => e = .returned (.bool (tot1 17)) ∧ w' = w := by
  go_enter Try.func24, Try.ntmps24
  go_wp2_with (go_at_call 16; refine (refTakes1_17 _).mono ?_; rintro e w' ⟨rfl, rfl⟩)
  all_goals
    go_ret
    exact ⟨ret_b (by decide), rfl⟩

set_option maxHeartbeats 400000 in
theorem refTotal1_hi (f : Int) (h : 18 ≤ f)  (w : World) : Calls Try.prog 24 #[.int .u8 f, .bool false] w fun e w' => e = .returned (.bool (tot1 f)) ∧ w' = w := by
  have hh := Lib.hid h
  have n1 : (f == 1) = false := by simp; omega
  have n2 : (f == 2) = false := by simp; omega
  have n3 : (f == 3) = false := by simp; omega
  have n4 : (f == 4) = false := by simp; omega
  have n5 : (f == 5) = false := by simp; omega
  have n6 : (f == 6) = false := by simp; omega
  have n7 : (f == 7) = false := by simp; omega
  have n8 : (f == 8) = false := by simp; omega
  have n9 : (f == 9) = false := by simp; omega
  have n10 : (f == 10) = false := by simp; omega
  have n11 : (f == 11) = false := by simp; omega
  have n12 : (f == 12) = false := by simp; omega
  have n13 : (f == 13) = false := by simp; omega
  have n14 : (f == 14) = false := by simp; omega
  have n15 : (f == 15) = false := by simp; omega
  have n16 : (f == 16) = false := by simp; omega
  have n17 : (f == 17) = false := by simp; omega
  go_enter Try.func24, Try.ntmps24
  go_wp2_with (go_at_call 16; refine (refTakes1_hi _ hh.out _).mono ?_; rintro e w' ⟨rfl, rfl⟩)
  all_goals
    go_ret
    exact ⟨ret_b (by rw [tot1_hi f hh.out, tk1_hi f hh.out]), rfl⟩

theorem refTotal1_any (f : Int) (hf : 0 ≤ f)  (w : World) : Calls Try.prog 24 #[.int .u8 f, .bool false] w fun e w' => e = .returned (.bool (tot1 f)) ∧ w' = w := by
  rcases (by omega : f = 0 ∨ f = 1 ∨ f = 2 ∨ f = 3 ∨ f = 4 ∨ f = 5 ∨ f = 6 ∨ f = 7 ∨ f = 8 ∨ f = 9 ∨ f = 10 ∨ f = 11 ∨ f = 12 ∨ f = 13 ∨ f = 14 ∨ f = 15 ∨ f = 16 ∨ f = 17 ∨ 18 ≤ f) with rfl | rfl | rfl | rfl | rfl | rfl | rfl | rfl | rfl | rfl | rfl | rfl | rfl | rfl | rfl | rfl | rfl | rfl | h
  · exact refTotal1_0  w
  · exact refTotal1_1  w
  · exact refTotal1_2  w
  · exact refTotal1_3  w
  · exact refTotal1_4  w
  · exact refTotal1_5  w
  · exact refTotal1_6  w
  · exact refTotal1_7  w
  · exact refTotal1_8  w
  · exact refTotal1_9  w
  · exact refTotal1_10  w
  · exact refTotal1_11  w
  · exact refTotal1_12  w
  · exact refTotal1_13  w
  · exact refTotal1_14  w
  · exact refTotal1_15  w
  · exact refTotal1_16  w
  · exact refTotal1_17  w
  · exact refTotal1_hi f h  w

end Go.Proofs.Ytajlpngbnnbblaa
