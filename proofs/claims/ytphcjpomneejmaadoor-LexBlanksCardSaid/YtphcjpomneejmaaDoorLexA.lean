/- Contracts of the leaves of package lex: kinds of bytes, spans. -/
import Derived.Test.YtphcjpomneejmaaDoorRows
import Derived.Test.YtphcjpomneejmaaDoorShelf
import Derived.WalkKit
import Derived.WalkSpells
import Derived.WalkLawsBesides
import Derived.Lib.Hide
import Derived.Below
import Derived.Outline
import Derived.BigQuiet
import Derived.Deep.QuietTactic
import Derived.Test.YtphcjpomneejmaaDoorLexM
namespace Go.Proofs.YtphcjpomneejmaaDoor
open Go.RowKit

theorem ret_int {k : IntKind} {a b : Int} (h : a = b) : Ending.returned (.int k a) = .returned (.int k b) := by rw [h]
theorem ret_bool {a b : Bool} (h : a = b) : Ending.returned (.bool a) = .returned (.bool b) := by rw [h]
theorem get_s (s : ByteArray) (k : Nat) (h : k < s.size) : s.data.toList.getD k 0 = s[k] := by
  rw [List.getD_eq_getElem?_getD, List.getElem?_eq_getElem (by simpa using h)]; rfl
theorem len_s (s : ByteArray) : s.data.toList.length = s.size := by simp
set_option maxHeartbeats 400000 in
theorem letter_any (b : UInt8) (w : World) : Calls Tryd.prog 27 #[.int .u8 b.toNat] w fun e w' => e = .returned (.bool (letB b)) ∧ w' = w := by
  have hb := b.toNat_lt
  go_enter Tryd.func27, Tryd.ntmps27
  go_wp2
  all_goals
    go_ret
    refine ⟨ret_bool ?_, rfl⟩
    rw [Bool.eq_iff_iff]
    simp [letB]
    try omega
set_option maxHeartbeats 400000 in
theorem digit_any (b : UInt8) (w : World) : Calls Tryd.prog 30 #[.int .u8 b.toNat] w fun e w' => e = .returned (.bool (digB b)) ∧ w' = w := by
  have hb := b.toNat_lt
  go_enter Tryd.func30, Tryd.ntmps30
  go_wp2
  all_goals
    go_ret
    refine ⟨ret_bool ?_, rfl⟩
    rw [Bool.eq_iff_iff]
    simp [digB]
    try omega
set_option maxHeartbeats 400000 in
theorem word1_any (b : UInt8) (w : World) : Calls Tryd.prog 29 #[.int .u8 b.toNat] w fun e w' => e = .returned (.bool (alnB b)) ∧ w' = w := by
  have hb := b.toNat_lt
  go_enter Tryd.func29, Tryd.ntmps29
  go_wp2_with (first | (go_at_call 27; refine (letter_any b _).mono ?_; rintro e w' ⟨rfl, rfl⟩) | (go_at_call 30; refine (digit_any b _).mono ?_; rintro e w' ⟨rfl, rfl⟩))
  all_goals
    go_ret
    refine ⟨ret_bool ?_, rfl⟩
    rw [Bool.eq_iff_iff]
    simp [alnB, *]
    try omega
set_option maxHeartbeats 400000 in
theorem idle1_any (b : UInt8) (w : World) : Calls Tryd.prog 34 #[.int .u8 b.toNat] w fun e w' => e = .returned (.bool (nlB b)) ∧ w' = w := by
  have hb := b.toNat_lt
  go_enter Tryd.func34, Tryd.ntmps34
  go_wp2
  all_goals
    go_ret
    refine ⟨ret_bool ?_, rfl⟩
    rw [Bool.eq_iff_iff]
    simp [nlB]
    try omega
set_option maxHeartbeats 400000 in
theorem idle2_any (b : UInt8) (w : World) : Calls Tryd.prog 35 #[.int .u8 b.toNat] w fun e w' => e = .returned (.bool (blB b)) ∧ w' = w := by
  have hb := b.toNat_lt
  go_enter Tryd.func35, Tryd.ntmps35
  go_wp2
  all_goals
    go_ret
    refine ⟨ret_bool ?_, rfl⟩
    rw [Bool.eq_iff_iff]
    simp [blB]
    try omega
set_option maxHeartbeats 400000 in
theorem rletter_any (b : UInt8) (w : World) : Calls Tryd.prog 36 #[.int .u8 b.toNat] w fun e w' => e = .returned (.bool (letB b)) ∧ w' = w := by
  have hb := b.toNat_lt
  go_enter Tryd.func36, Tryd.ntmps36
  go_wp2
  all_goals
    go_ret
    refine ⟨ret_bool ?_, rfl⟩
    rw [Bool.eq_iff_iff]
    simp [letB]
    try omega
set_option maxHeartbeats 400000 in
theorem rdigit_any (b : UInt8) (w : World) : Calls Tryd.prog 46 #[.int .u8 b.toNat] w fun e w' => e = .returned (.bool (digB b)) ∧ w' = w := by
  have hb := b.toNat_lt
  go_enter Tryd.func46, Tryd.ntmps46
  go_wp2
  all_goals
    go_ret
    refine ⟨ret_bool ?_, rfl⟩
    rw [Bool.eq_iff_iff]
    simp [digB]
    try omega
set_option maxHeartbeats 400000 in
theorem span_aln (s : ByteArray) (w : World) (hs : s.size ≤ maxLen) : Calls Tryd.prog 28 #[.string s, .func (.func 29) #[] #[]] w fun e w' => e = .returned (.int .i64 (run alnB s.data.toList : Nat)) ∧ w' = w := by
  unfold maxLen at hs
  go_enter Tryd.func28, Tryd.ntmps28
  go_wp2
  go_loop [8] (fun i => ∃ k : Nat, k ≤ s.size ∧ i = .int .i64 k ∧ ∀ j, j < k → alnB (s.data.toList.getD j 0) = true) (fun i => s.size - (intOf i).toNat)
  case atStart => exact ⟨0, by omega, rfl, fun j hj => by omega⟩
  case round =>
    obtain ⟨k, hk, rfl, hp⟩ := hrel
    have HP := Lib.hid hp
    clear hp
    by_cases hlt : k < s.size
    · have hg := Lib.hid (get_s s k hlt)
      by_cases hb : alnB s[k] = true
      · go_wp2_with (go_at_call 29; refine (word1_any _ _).mono ?_; rintro e w' ⟨rfl, rfl⟩)
        go_round
        case rel => exact ⟨k + 1, by omega, by go_num, fun j hj => by
          rcases Nat.lt_or_ge j k with h | h
          · exact HP.out j h
          · obtain rfl : j = k := by omega
            rw [hg.out]; exact hb⟩
        case measure => simp [intOf]; omega
      · have hb : alnB s[k] = false := by simpa using hb
        go_wp2_with (go_at_call 29; refine (word1_any _ _).mono ?_; rintro e w' ⟨rfl, rfl⟩)
        go_ret
        exact ⟨ret_int (by rw [run_stop _ _ k HP.out (by rw [len_s]; omega) (.inr (by rw [hg.out]; exact hb))]), rfl⟩
    · obtain rfl : k = s.size := by omega
      go_wp2
      go_ret
      exact ⟨ret_int (by rw [run_stop _ _ s.size HP.out (by rw [len_s]; omega) (.inl (by rw [len_s]))]), rfl⟩
set_option maxHeartbeats 400000 in
theorem span_dig (s : ByteArray) (w : World) (hs : s.size ≤ maxLen) : Calls Tryd.prog 28 #[.string s, .func (.func 30) #[] #[]] w fun e w' => e = .returned (.int .i64 (run digB s.data.toList : Nat)) ∧ w' = w := by
  unfold maxLen at hs
  go_enter Tryd.func28, Tryd.ntmps28
  go_wp2
  go_loop [8] (fun i => ∃ k : Nat, k ≤ s.size ∧ i = .int .i64 k ∧ ∀ j, j < k → digB (s.data.toList.getD j 0) = true) (fun i => s.size - (intOf i).toNat)
  case atStart => exact ⟨0, by omega, rfl, fun j hj => by omega⟩
  case round =>
    obtain ⟨k, hk, rfl, hp⟩ := hrel
    have HP := Lib.hid hp
    clear hp
    by_cases hlt : k < s.size
    · have hg := Lib.hid (get_s s k hlt)
      by_cases hb : digB s[k] = true
      · go_wp2_with (go_at_call 30; refine (digit_any _ _).mono ?_; rintro e w' ⟨rfl, rfl⟩)
        go_round
        case rel => exact ⟨k + 1, by omega, by go_num, fun j hj => by
          rcases Nat.lt_or_ge j k with h | h
          · exact HP.out j h
          · obtain rfl : j = k := by omega
            rw [hg.out]; exact hb⟩
        case measure => simp [intOf]; omega
      · have hb : digB s[k] = false := by simpa using hb
        go_wp2_with (go_at_call 30; refine (digit_any _ _).mono ?_; rintro e w' ⟨rfl, rfl⟩)
        go_ret
        exact ⟨ret_int (by rw [run_stop _ _ k HP.out (by rw [len_s]; omega) (.inr (by rw [hg.out]; exact hb))]), rfl⟩
    · obtain rfl : k = s.size := by omega
      go_wp2
      go_ret
      exact ⟨ret_int (by rw [run_stop _ _ s.size HP.out (by rw [len_s]; omega) (.inl (by rw [len_s]))]), rfl⟩
set_option maxHeartbeats 400000 in
theorem span_nl (s : ByteArray) (w : World) (hs : s.size ≤ maxLen) : Calls Tryd.prog 28 #[.string s, .func (.func 34) #[] #[]] w fun e w' => e = .returned (.int .i64 (run nlB s.data.toList : Nat)) ∧ w' = w := by
  unfold maxLen at hs
  go_enter Tryd.func28, Tryd.ntmps28
  go_wp2
  go_loop [8] (fun i => ∃ k : Nat, k ≤ s.size ∧ i = .int .i64 k ∧ ∀ j, j < k → nlB (s.data.toList.getD j 0) = true) (fun i => s.size - (intOf i).toNat)
  case atStart => exact ⟨0, by omega, rfl, fun j hj => by omega⟩
  case round =>
    obtain ⟨k, hk, rfl, hp⟩ := hrel
    have HP := Lib.hid hp
    clear hp
    by_cases hlt : k < s.size
    · have hg := Lib.hid (get_s s k hlt)
      by_cases hb : nlB s[k] = true
      · go_wp2_with (go_at_call 34; refine (idle1_any _ _).mono ?_; rintro e w' ⟨rfl, rfl⟩)
        go_round
        case rel => exact ⟨k + 1, by omega, by go_num, fun j hj => by
          rcases Nat.lt_or_ge j k with h | h
          · exact HP.out j h
          · obtain rfl : j = k := by omega
            rw [hg.out]; exact hb⟩
        case measure => simp [intOf]; omega
      · have hb : nlB s[k] = false := by simpa using hb
        go_wp2_with (go_at_call 34; refine (idle1_any _ _).mono ?_; rintro e w' ⟨rfl, rfl⟩)
        go_ret
        exact ⟨ret_int (by rw [run_stop _ _ k HP.out (by rw [len_s]; omega) (.inr (by rw [hg.out]; exact hb))]), rfl⟩
    · obtain rfl : k = s.size := by omega
      go_wp2
      go_ret
      exact ⟨ret_int (by rw [run_stop _ _ s.size HP.out (by rw [len_s]; omega) (.inl (by rw [len_s]))]), rfl⟩
set_option maxHeartbeats 400000 in
theorem span_bl (s : ByteArray) (w : World) (hs : s.size ≤ maxLen) : Calls Tryd.prog 28 #[.string s, .func (.func 35) #[] #[]] w fun e w' => e = .returned (.int .i64 (run blB s.data.toList : Nat)) ∧ w' = w := by
  unfold maxLen at hs
  go_enter Tryd.func28, Tryd.ntmps28
  go_wp2
  go_loop [8] (fun i => ∃ k : Nat, k ≤ s.size ∧ i = .int .i64 k ∧ ∀ j, j < k → blB (s.data.toList.getD j 0) = true) (fun i => s.size - (intOf i).toNat)
  case atStart => exact ⟨0, by omega, rfl, fun j hj => by omega⟩
  case round =>
    obtain ⟨k, hk, rfl, hp⟩ := hrel
    have HP := Lib.hid hp
    clear hp
    by_cases hlt : k < s.size
    · have hg := Lib.hid (get_s s k hlt)
      by_cases hb : blB s[k] = true
      · go_wp2_with (go_at_call 35; refine (idle2_any _ _).mono ?_; rintro e w' ⟨rfl, rfl⟩)
        go_round
        case rel => exact ⟨k + 1, by omega, by go_num, fun j hj => by
          rcases Nat.lt_or_ge j k with h | h
          · exact HP.out j h
          · obtain rfl : j = k := by omega
            rw [hg.out]; exact hb⟩
        case measure => simp [intOf]; omega
      · have hb : blB s[k] = false := by simpa using hb
        go_wp2_with (go_at_call 35; refine (idle2_any _ _).mono ?_; rintro e w' ⟨rfl, rfl⟩)
        go_ret
        exact ⟨ret_int (by rw [run_stop _ _ k HP.out (by rw [len_s]; omega) (.inr (by rw [hg.out]; exact hb))]), rfl⟩
    · obtain rfl : k = s.size := by omega
      go_wp2
      go_ret
      exact ⟨ret_int (by rw [run_stop _ _ s.size HP.out (by rw [len_s]; omega) (.inl (by rw [len_s]))]), rfl⟩
end Go.Proofs.YtphcjpomneejmaaDoor
