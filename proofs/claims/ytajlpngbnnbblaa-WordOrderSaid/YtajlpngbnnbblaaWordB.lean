/- Contracts of package word: power, join, holds; and of the document's power and residue. -/
import Derived.Test.YtajlpngbnnbblaaWordA
namespace Go.Proofs.Ytajlpngbnnbblaa
open Go.RowKit

set_option maxHeartbeats 400000 in
theorem refpower_any (a b : Int) (hb : 0 ≤ b) (hb2 : b ≤ 9223372036854775807) (w : World) : Calls Try.prog 36 #[.int .i64 a, .int .i64 b] w fun e w' => e = .returned (.int .i64 (pw a b)) ∧ w' = w := by
  go_enter Try.func36, Try.ntmps36
  go_wp2
  go_loop [0, 1, 5] (fun x y p => ∃ (a' b' p' : Int), x = .int .i64 a' ∧ y = .int .i64 b' ∧ p = .int .i64 p' ∧ 0 ≤ b' ∧ b' ≤ 9223372036854775807 ∧ pw a b = wrap64 (p' * a' ^ b'.toNat) ∧ wrap64 p' = p') (fun _ y _ => (intOf y).toNat)
  case atStart => exact ⟨a, b, 1, rfl, rfl, rfl, hb, hb2, by unfold pw; rw [Int.one_mul], IntWalk.wrap64_in 1 (by omega)⟩
  case round =>
    obtain ⟨a', b', p', rfl, rfl, rfl, h0, h1, h2, h3⟩ := hrel
    have H2 := Lib.hid h2
    have H3 := Lib.hid h3
    clear h2 h3
    by_cases hz : 0 < b'
    · go_wp2
      all_goals go_round
      case rel => exact ⟨_, _, _, rfl, rfl, rfl, by omega, by omega, sq_round_t _ _ _ _ H2.out hz (by assumption), wrap64_wrap _⟩
      case measure => simp [intOf]; omega
      case rel => exact ⟨_, _, _, rfl, rfl, rfl, by omega, by omega, sq_round_f _ _ _ _ H2.out hz (by assumption), H3.out⟩
      case measure => simp [intOf]; omega
    · go_wp2
      go_ret
      exact ⟨ret_i64 (by rw [H2.out]; exact (sq_end _ _ _ h0 hz H3.out).symm), rfl⟩
set_option maxHeartbeats 400000 in
theorem power_any (a b : Int) (hb : 0 ≤ b) (hb2 : b ≤ 9223372036854775807) (w : World) : Calls Try.prog 31 #[.int .i64 a, .int .i64 b] w fun e w' => e = .returned (.tuple #[.int .i64 (pw a b), .int .i64 0]) ∧ w' = w := by
  go_enter Try.func31, Try.ntmps31
  go_wp2
  go_loop [0, 1, 6] (fun x y p => ∃ (a' b' p' : Int), x = .int .i64 a' ∧ y = .int .i64 b' ∧ p = .int .i64 p' ∧ 0 ≤ b' ∧ b' ≤ 9223372036854775807 ∧ pw a b = wrap64 (p' * a' ^ b'.toNat) ∧ wrap64 p' = p') (fun _ y _ => (intOf y).toNat)
  case atStart => exact ⟨a, b, 1, rfl, rfl, rfl, hb, hb2, by unfold pw; rw [Int.one_mul], IntWalk.wrap64_in 1 (by omega)⟩
  case round =>
    obtain ⟨a', b', p', rfl, rfl, rfl, h0, h1, h2, h3⟩ := hrel
    have H2 := Lib.hid h2
    have H3 := Lib.hid h3
    clear h2 h3
    by_cases hz : 0 < b'
    · go_wp2
      all_goals go_round
      case rel => exact ⟨_, _, _, rfl, rfl, rfl, by omega, by omega, sq_round_t _ _ _ _ H2.out hz (by rw [← and_one]; assumption), wrap64_wrap _⟩
      case measure => simp [intOf]; omega
      case rel => exact ⟨_, _, _, rfl, rfl, rfl, by omega, by omega, sq_round_f _ _ _ _ H2.out hz (by rw [← and_one]; assumption), H3.out⟩
      case measure => simp [intOf]; omega
    · go_wp2
      go_ret2
      exact ⟨ret_i64o (by rw [H2.out]; exact (sq_end _ _ _ h0 hz H3.out).symm), rfl⟩
set_option maxHeartbeats 400000 in
theorem power_neg (a b : Int) (hb : b < 0) (w : World) : Calls Try.prog 31 #[.int .i64 a, .int .i64 b] w fun e w' => e = .returned (.tuple #[.int .i64 0, .int .i64 11]) ∧ w' = w := by
  go_enter Try.func31, Try.ntmps31
  go_wp2
  go_ret2
  exact ⟨rfl, rfl⟩
set_option maxHeartbeats 400000 in
theorem refresidue_any (a b : Int) (wa : -9223372036854775808 ≤ a ∧ a ≤ 9223372036854775807) (w : World) : Calls Try.prog 34 #[.int .i64 a, .int .i64 b] w fun e w' => e = .returned (.int .i64 (rs a b)) ∧ w' = w := by
  have H := Lib.hid wa
  clear wa
  by_cases h : a = 0
  · subst h
    go_enter Try.func34, Try.ntmps34
    go_wp2
    go_ret
    exact ⟨ret_i64 (by unfold rs; rw [if_pos rfl]), rfl⟩
  · have hb : (a == 0) = false := by simpa using h
    go_enter Try.func34, Try.ntmps34
    go_wp2_with (go_at_call 33; refine (floor_n b a h _).mono ?_; rintro e w' ⟨rfl, rfl⟩)
    go_ret
    exact ⟨ret_i64 (rs_of_qt a b h H.out), rfl⟩
end Go.Proofs.Ytajlpngbnnbblaa
