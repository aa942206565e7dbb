/- Contracts of the document's answers for layer 3: end, sign, value. -/
import Derived.Test.YtphcjpomneejmaaDoorLexO
namespace Go.Proofs.YtphcjpomneejmaaDoor
open Go.RowKit

theorem drop_get (l : List UInt8) (k i : Nat) : (l.drop k).getD i 0 = l.getD (k + i) 0 := by
  rw [List.getD_eq_getElem?_getD, List.getD_eq_getElem?_getD, List.getElem?_drop]
theorem run_at {f : UInt8 → Bool} {s : ByteArray} {k j : Nat} (hkj : k ≤ j) (hj : j ≤ s.size) (h : ∀ i, k ≤ i → i < j → f (s.data.toList.getD i 0) = true) (hs : j = s.size ∨ f (s.data.toList.getD j 0) = false) : run f (s.data.toList.drop k) = j - k := by
  refine run_stop _ _ (j - k) (fun i hi => by rw [drop_get]; exact h _ (by omega) (by omega)) (by rw [List.length_drop, len_s]; omega) ?_
  rcases hs with hs | hs
  · left; rw [List.length_drop, len_s]; omega
  · right; rw [drop_get, show k + (j - k) = j from by omega]; exact hs
set_option maxHeartbeats 1000000 in
theorem rend_aln (s : ByteArray) (k : Nat) (w : World) (hs : s.size ≤ 140737488355328) (hk : k ≤ s.size) : Calls Tryd.prog 37 #[.string s, .int .i64 k, .bool true] w fun e w' => e = .returned (.int .i64 (k + run alnB (s.data.toList.drop k) : Nat)) ∧ w' = w := by
  go_enter Tryd.func37, Tryd.ntmps37
  go_wp2
  go_loop [1] (fun i => ∃ j : Nat, k ≤ j ∧ j ≤ s.size ∧ i = .int .i64 j ∧ ∀ i, k ≤ i → i < j → alnB (s.data.toList.getD i 0) = true) (fun i => s.size - (intOf i).toNat)
  case atStart => exact ⟨k, Nat.le_refl _, hk, rfl, fun j h1 h2 => by omega⟩
  case round =>
    obtain ⟨j, hkj, hj, rfl, hp⟩ := hrel
    have HP := Lib.hid hp
    clear hp
    by_cases hlt : j < s.size
    · have hg := Lib.hid (get_s s j hlt)
      have T : ∀ hb : alnB s[j] = true, ∀ i, k ≤ i → i < j + 1 → alnB (s.data.toList.getD i 0) = true := fun hb i h1 h2 => by
        rcases Nat.lt_or_ge i j with h | h
        · exact HP.out i h1 h
        · obtain rfl : i = j := by omega
          rw [hg.out]; exact hb
      have HT := Lib.hid T
      clear T
      cases hd : digB s[j] with
      | true =>
        go_wp2_with (first | (go_at_call 46; refine (rdigit_any s[j] _).mono ?_; rintro e w' ⟨rfl, rfl⟩) | (go_at_call 36; refine (rletter_any s[j] _).mono ?_; rintro e w' ⟨rfl, rfl⟩))
        go_round
        case rel => exact ⟨j + 1, by omega, by omega, by go_num, HT.out (by unfold alnB; rw [hd]; simp)⟩
        case measure => simp [intOf]; omega
      | false =>
        cases hl : letB s[j] with
        | true =>
          go_wp2_with (first | (go_at_call 46; refine (rdigit_any s[j] _).mono ?_; rintro e w' ⟨rfl, rfl⟩) | (go_at_call 36; refine (rletter_any s[j] _).mono ?_; rintro e w' ⟨rfl, rfl⟩))
          go_round
          case rel => exact ⟨j + 1, by omega, by omega, by go_num, HT.out (by unfold alnB; rw [hl]; simp)⟩
          case measure => simp [intOf]; omega
        | false =>
          go_wp2_with (first | (go_at_call 46; refine (rdigit_any s[j] _).mono ?_; rintro e w' ⟨rfl, rfl⟩) | (go_at_call 36; refine (rletter_any s[j] _).mono ?_; rintro e w' ⟨rfl, rfl⟩))
          go_ret
          exact ⟨ret_int (by rw [run_at hkj (by omega) HP.out (.inr (by rw [hg.out]; unfold alnB; rw [hd, hl]; rfl))]; omega), rfl⟩
    · obtain rfl : j = s.size := by omega
      go_wp2
      go_ret
      exact ⟨ret_int (by rw [run_at hkj (by omega) HP.out (.inl rfl)]; omega), rfl⟩
set_option maxHeartbeats 1000000 in
theorem rend_dig (s : ByteArray) (k : Nat) (w : World) (hs : s.size ≤ 140737488355328) (hk : k ≤ s.size) : Calls Tryd.prog 37 #[.string s, .int .i64 k, .bool false] w fun e w' => e = .returned (.int .i64 (k + run digB (s.data.toList.drop k) : Nat)) ∧ w' = w := by
  go_enter Tryd.func37, Tryd.ntmps37
  go_wp2
  go_loop [1] (fun i => ∃ j : Nat, k ≤ j ∧ j ≤ s.size ∧ i = .int .i64 j ∧ ∀ i, k ≤ i → i < j → digB (s.data.toList.getD i 0) = true) (fun i => s.size - (intOf i).toNat)
  case atStart => exact ⟨k, Nat.le_refl _, hk, rfl, fun j h1 h2 => by omega⟩
  case round =>
    obtain ⟨j, hkj, hj, rfl, hp⟩ := hrel
    have HP := Lib.hid hp
    clear hp
    by_cases hlt : j < s.size
    · have hg := Lib.hid (get_s s j hlt)
      cases hd : digB s[j] with
      | true =>
        go_wp2_with (first | (go_at_call 46; refine (rdigit_any s[j] _).mono ?_; rintro e w' ⟨rfl, rfl⟩))
        go_round
        case rel => exact ⟨j + 1, by omega, by omega, by go_num, fun i h1 h2 => by
          rcases Nat.lt_or_ge i j with h | h
          · exact HP.out i h1 h
          · obtain rfl : i = j := by omega
            rw [hg.out]; exact hd⟩
        case measure => simp [intOf]; omega
      | false =>
        go_wp2_with (first | (go_at_call 46; refine (rdigit_any s[j] _).mono ?_; rintro e w' ⟨rfl, rfl⟩))
        go_ret
        exact ⟨ret_int (by rw [run_at hkj (by omega) HP.out (.inr (by rw [hg.out]; exact hd))]; omega), rfl⟩
    · obtain rfl : j = s.size := by omega
      go_wp2
      go_ret
      exact ⟨ret_int (by rw [run_at hkj (by omega) HP.out (.inl rfl)]; omega), rfl⟩
end Go.Proofs.YtphcjpomneejmaaDoor
