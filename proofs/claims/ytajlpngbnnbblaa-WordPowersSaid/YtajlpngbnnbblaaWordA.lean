/- Contracts of the leaves of package word and of the document's answers for it: what each call answers; the world stays. -/
import Derived.Test.YtajlpngbnnbblaaRows
import Derived.WalkKit
import Derived.WalkSpells
import Derived.WalkLawsBesides
import Derived.Lib.Hide
import Derived.Test.YtajlpngbnnbblaaWordM
namespace Go.Proofs.Ytajlpngbnnbblaa
open Go.RowKit

def b2i (b : Bool) : Int := if b then 1 else 0

set_option maxHeartbeats 400000 in
theorem number_t (w : World) : Calls Try.prog 28 #[.bool true] w fun e w' => e = .returned (.int .i64 1) ∧ w' = w := by
  go_enter Try.func28, Try.ntmps28
  go_wp2
  go_ret
  exact ⟨rfl, rfl⟩
set_option maxHeartbeats 400000 in
theorem number_f (w : World) : Calls Try.prog 28 #[.bool false] w fun e w' => e = .returned (.int .i64 0) ∧ w' = w := by
  go_enter Try.func28, Try.ntmps28
  go_wp2
  go_ret
  exact ⟨rfl, rfl⟩
theorem number_any (b : Bool) (w : World) : Calls Try.prog 28 #[.bool b] w fun e w' => e = .returned (.int .i64 (b2i b)) ∧ w' = w := by
  cases b
  · exact number_f w
  · exact number_t w

set_option maxHeartbeats 400000 in
theorem bit_t (w : World) : Calls Try.prog 35 #[.bool true] w fun e w' => e = .returned (.int .i64 1) ∧ w' = w := by
  go_enter Try.func35, Try.ntmps35
  go_wp2
  go_ret
  exact ⟨rfl, rfl⟩
set_option maxHeartbeats 400000 in
theorem bit_f (w : World) : Calls Try.prog 35 #[.bool false] w fun e w' => e = .returned (.int .i64 0) ∧ w' = w := by
  go_enter Try.func35, Try.ntmps35
  go_wp2
  go_ret
  exact ⟨rfl, rfl⟩
theorem bit_any (b : Bool) (w : World) : Calls Try.prog 35 #[.bool b] w fun e w' => e = .returned (.int .i64 (b2i b)) ∧ w' = w := by
  cases b
  · exact bit_f w
  · exact bit_t w

def truthB (a : Int) : Bool := a == 0 || a == 1

set_option maxHeartbeats 400000 in
theorem truth_any (a : Int) (w : World) : Calls Try.prog 38 #[.int .i64 a] w fun e w' => e = .returned (.bool (truthB a)) ∧ w' = w := by
  go_enter Try.func38, Try.ntmps38
  go_wp2
  all_goals
    go_ret
    exact ⟨by simp_all [truthB], rfl⟩

set_option maxHeartbeats 400000 in
theorem boolean_any (a : Int) (w : World) : Calls Try.prog 32 #[.int .i64 a] w fun e w' => e = .returned (.bool (truthB a)) ∧ w' = w := by
  go_enter Try.func32, Try.ntmps32
  go_wp2
  all_goals
    go_ret
    exact ⟨by simp_all [truthB], rfl⟩

theorem ret_i64 {a b : Int} (h : a = b) : Ending.returned (.int .i64 a) = .returned (.int .i64 b) := by rw [h]
theorem ret_i64o {a b : Int} (h : a = b) : Ending.returned (.tuple #[.int .i64 a, .int .i64 0]) = .returned (.tuple #[.int .i64 b, .int .i64 0]) := by rw [h]

def sz (a : Int) : Int := if a < 0 then wrap64 (-a) else a
theorem sz_neg (a : Int) (h : a < 0) : sz a = wrap64 (-a) := if_pos h
theorem sz_pos (a : Int) (h : ¬ a < 0) : sz a = a := if_neg h
set_option maxHeartbeats 400000 in
theorem size_any (a : Int) (w : World) : Calls Try.prog 37 #[.int .i64 a] w fun e w' => e = .returned (.int .i64 (sz a)) ∧ w' = w := by
  by_cases h : a < 0
  · go_enter Try.func37, Try.ntmps37
    go_wp2
    go_ret
    exact ⟨ret_i64 (sz_neg a h).symm, rfl⟩
  · have h' := sz_pos a h
    go_enter Try.func37, Try.ntmps37
    go_wp2
    go_ret
    exact ⟨ret_i64 rfl, rfl⟩

/-! ### divide, floor -/
set_option maxHeartbeats 400000 in
theorem divide_0 (a : Int) (w : World) : Calls Try.prog 26 #[.int .i64 a, .int .i64 0] w fun e w' => e = .returned (.tuple #[.int .i64 0, .int .i64 11]) ∧ w' = w := by
  go_enter Try.func26, Try.ntmps26
  go_wp2
  go_ret2
  exact ⟨rfl, rfl⟩

set_option maxHeartbeats 400000 in
theorem divide_n (a b : Int) (h : ¬ b = 0) (w : World) : Calls Try.prog 26 #[.int .i64 a, .int .i64 b] w fun e w' => e = .returned (.tuple #[.int .i64 (qt a b), .int .i64 0]) ∧ w' = w := by
  have hb : (b == 0) = false := by simpa using h
  go_enter Try.func26, Try.ntmps26
  go_wp2
  all_goals
    go_ret2
    refine ⟨ret_i64o ?_, rfl⟩
  · exact (qt_even a b (by assumption)).symm
  · exact (qt_down a b h (by assumption) (And.right (by assumption))).symm
  · exact (qt_same a b (by assumption) (by assumption)).symm
set_option maxHeartbeats 400000 in
theorem residue_any (a b : Int) (wa : -9223372036854775808 ≤ a ∧ a ≤ 9223372036854775807) (w : World) : Calls Try.prog 27 #[.int .i64 a, .int .i64 b] w fun e w' => e = .returned (.int .i64 (rs a b)) ∧ w' = w := by
  have H := Lib.hid wa
  clear wa
  by_cases h : a = 0
  · subst h
    go_enter Try.func27, Try.ntmps27
    go_wp2
    go_ret
    exact ⟨ret_i64 (by unfold rs; rw [if_pos rfl]), rfl⟩
  · have hb : (a == 0) = false := by simpa using h
    go_enter Try.func27, Try.ntmps27
    go_wp2
    all_goals
      go_ret
      refine ⟨ret_i64 ?_, rfl⟩
    · exact (rs_even a b h (by assumption)).symm
    · exact (rs_up a b h H.out (by assumption) (And.right (by assumption))).symm
    · exact (rs_same a b h (by assumption) (by assumption)).symm
set_option maxHeartbeats 400000 in
theorem floor_n (a b : Int) (h : ¬ b = 0) (w : World) : Calls Try.prog 33 #[.int .i64 a, .int .i64 b] w fun e w' => e = .returned (.int .i64 (qt a b)) ∧ w' = w := by
  have hb : (b == 0) = false := by simpa using h
  by_cases h1 : b = -1
  · subst h1
    go_enter Try.func33, Try.ntmps33
    go_wp2
    go_ret
    exact ⟨ret_i64 (qt_m1 a).symm, rfl⟩
  · go_enter Try.func33, Try.ntmps33
    go_wp2
    all_goals
      go_ret
      refine ⟨ret_i64 ?_, rfl⟩
    · exact (qt_even a b (by assumption)).symm
    · exact (qt_down a b h (by assumption) (And.right (by assumption))).symm
    · exact (qt_same a b (by assumption) (by assumption)).symm
end Go.Proofs.Ytajlpngbnnbblaa
