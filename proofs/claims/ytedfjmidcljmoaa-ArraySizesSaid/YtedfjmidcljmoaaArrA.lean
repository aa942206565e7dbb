
/- Contracts: sizes, what is an array, indexes below, the same numbers (layer 6). -/
import Derived.Test.YtedfjmidcljmoaaRows
import Derived.WalkKit
import Derived.WalkSpells
import Derived.WalkLawsBesides
import Derived.Lib.Hide
import Derived.Below
import Derived.Outline
import Derived.BigQuiet
import Derived.Deep.QuietTactic
import Derived.Deep.Draws
import Derived.Test.YtedfjmidcljmoaaArrP
namespace Go.Proofs.Ytedfjmidcljmoaa
open Go.RowKit
set_option linter.unusedVariables false
theorem RdA.at_ {w : World} {A : Option Addr} {l : List Int} (h : RdA w A l) {k : Nat} (hk : k < l.length) : ∃ b o, A = some ⟨b, o, none⟩ ∧ b < w.heap.size ∧ w.cell? ⟨b, o + k, none⟩ = some (.int .i64 (ith l k)) := by
  obtain ⟨b, o, e, h1, h2⟩ := h.2 (by omega)
  exact ⟨b, o, e, h1, h2 k hk⟩
theorem RdA.rng {w : World} {A : Option Addr} {l : List Int} (h : RdA w A l) (k : Nat) : -9223372036854775808 ≤ ith l k ∧ ith l k ≤ 9223372036854775807 := by
  rcases Nat.lt_or_ge k l.length with hk | hk
  · exact h.1 _ (ith_mem hk)
  · rw [ith_out hk]; omega

set_option maxHeartbeats 400000 in
theorem below_yes (n m : Int) (w : World) (h1 : 0 ≤ n) (h2 : n < m) : Calls Try.prog 24 #[.int .i64 n, .int .i64 m] w fun e w' => e = .returned (.bool true) ∧ w' = w := by
  go_enter Try.func24, Try.ntmps24
  go_wp2
  go_ret
  exact ⟨rfl, rfl⟩
set_option maxHeartbeats 400000 in
theorem below_no (n m : Int) (w : World) (h : ¬ (0 ≤ n ∧ n < m)) : Calls Try.prog 24 #[.int .i64 n, .int .i64 m] w fun e w' => e = .returned (.bool false) ∧ w' = w := by
  by_cases h1 : 0 ≤ n
  · have h2 : ¬ n < m := by omega
    clear h
    go_enter Try.func24, Try.ntmps24
    go_wp2
    go_ret
    exact ⟨rfl, rfl⟩
  · clear h
    go_enter Try.func24, Try.ntmps24
    go_wp2
    go_ret
    exact ⟨rfl, rfl⟩

set_option maxHeartbeats 1000000 in
theorem size_any (A : Option Addr) (s : List Int) (c n : Nat) (w : World) (h : RdA w A s) (hn : s.length = n) (hl : n ≤ maxLen) :
    Calls Try.prog 10 #[.slice A n c] w fun e w' => e = .returned (.tuple #[.int .i64 (szR s).1, .int .i64 (szR s).2]) ∧ w' = w := by
  have H := Lib.hid h
  have HN := Lib.hid hn
  clear h hn
  unfold maxLen at hl
  by_cases h4 : n ≤ 4
  · go_enter Try.func10, Try.ntmps10
    go_wp2
    go_loop [4, 12] (fun z i => ∃ (k : Nat) (p : Int), k ≤ n ∧ i = .int .i64 k ∧ z = .int .i64 p ∧ (∀ j, j < k → 0 ≤ ith s j ∧ ith s j ≤ 65536) ∧ p = capA (s.take k)) (fun _ i => n - (intOf i).toNat)
    case atStart => exact ⟨0, 1, by omega, rfl, rfl, fun j hj => by omega, rfl⟩
    case round =>
      obtain ⟨k, p, hk, rfl, rfl, hok, hp⟩ := hrel
      have HK := Lib.hid hok
      have HP := Lib.hid hp
      have hp0 : 0 ≤ p := by rw [hp]; exact cap_nn (nn_take hok)
      clear hok hp
      by_cases hlt : k < n
      · have hlt2 : k < s.length := by rw [HN.out]; exact hlt
        obtain ⟨b, o, rfl, hb, c0⟩ := H.out.at_ hlt2
        obtain ⟨x, hx⟩ : ∃ x, x = ith s k := ⟨_, rfl⟩
        have HX := Lib.hid hx
        rw [← hx] at c0
        clear hx
        by_cases h1 : x < 0
        · have hz := Lib.hid (sz_no (not_ok_side hlt2 (.inl (HX.out ▸ h1))))
          clear hlt2
          go_wp2
          go_ret2
          exact ⟨by rw [hz.out] <;> rfl, rfl⟩
        · by_cases h2 : 65536 < x
          · have hz := Lib.hid (sz_no (not_ok_side hlt2 (.inr (HX.out ▸ h2))))
            clear hlt2
            go_wp2
            go_ret2
            exact ⟨by rw [hz.out] <;> rfl, rfl⟩
          · have hm := cap_bound (s := s) (k := k) (by rw [← HP.out]; exact hp0) (show 0 ≤ x ∧ x ≤ 65536 by omega)
            rw [← HP.out] at hm
            have hs := Lib.hid (cap_snoc hlt2 (fun j hj => (HK.out j hj).1) (show 0 ≤ ith s k by rw [← HX.out]; omega))
            clear hlt2
            have hm1 := hm.1
            have hm2 := hm.2
            clear hm
            go_wp2
            go_round
            case rel => exact ⟨k + 1, _, by omega, by go_num, rfl, fun j hj => by
                rcases Nat.lt_or_ge j k with h3 | h3
                · exact HK.out j h3
                · obtain rfl : j = k := by omega
                  rw [← HX.out]; omega, by rw [← hs.out, ← HP.out, ← HX.out]⟩
            case measure => simp [intOf]; omega
      · obtain rfl : k = n := by omega
        have he := cap_end (s := s) (by rw [HN.out]; exact h4) (fun j hj => HK.out j (by rw [HN.out] at hj; exact hj))
        have ht : s.take k = s := List.take_of_length_le (by rw [HN.out]; omega)
        rw [ht] at HP
        by_cases h3 : 65536 < p
        · have hz := Lib.hid (sz_no (he.1 (by rw [← HP.out]; exact h3)))
          clear he ht
          go_wp2
          go_ret2
          exact ⟨by rw [hz.out] <;> rfl, rfl⟩
        · have h5 := he.2 (by rw [← HP.out]; omega)
          have hz := Lib.hid (sz_yes h5.1)
          have hq := Lib.hid h5.2
          clear he h5 ht
          go_wp2
          go_ret2
          exact ⟨by rw [hz.out, ← hq.out, ← HP.out] <;> rfl, rfl⟩
  · have hz := Lib.hid (sz_no (not_ok_len (s := s) (by rw [HN.out]; omega)))
    go_enter Try.func10, Try.ntmps10
    go_wp2
    go_ret2
    exact ⟨by rw [hz.out] <;> rfl, rfl⟩

set_option maxHeartbeats 1000000 in
theorem refsize_any (A : Option Addr) (s : List Int) (c n : Nat) (w : World) (h : RdA w A s) (hn : s.length = n) (hl : n ≤ maxLen) :
    Calls Try.prog 11 #[.slice A n c] w fun e w' => e = .returned (.tuple #[.int .i64 (szR s).1, .int .i64 (szR s).2]) ∧ w' = w := by
  have H := Lib.hid h
  have HN := Lib.hid hn
  clear h hn
  unfold maxLen at hl
  by_cases h4 : n ≤ 4
  · go_enter Try.func11, Try.ntmps11
    go_wp2
    go_loop [4, 5] (fun z i => ∃ (k : Nat) (p : Int), k ≤ n ∧ i = .int .i64 k ∧ z = .int .i64 p ∧ (∀ j, j < k → 0 ≤ ith s j ∧ ith s j ≤ 65536) ∧ p = zerA (s.take k)) (fun _ i => n - (intOf i).toNat)
    case atStart => exact ⟨0, 1, by omega, rfl, rfl, fun j hj => by omega, rfl⟩
    case round =>
      obtain ⟨k, p, hk, rfl, rfl, hok, hp⟩ := hrel
      have HK := Lib.hid hok
      have HP := Lib.hid hp
      clear hok hp
      by_cases hlt : k < n
      · have hlt2 : k < s.length := by rw [HN.out]; exact hlt
        obtain ⟨b, o, rfl, hb, c0⟩ := H.out.at_ hlt2
        obtain ⟨x, hx⟩ : ∃ x, x = ith s k := ⟨_, rfl⟩
        have HX := Lib.hid hx
        rw [← hx] at c0
        clear hx
        by_cases h1 : x < 0
        · have hz := Lib.hid (sz_no (not_ok_side hlt2 (.inl (HX.out ▸ h1))))
          clear hlt2
          go_wp2
          go_ret2
          exact ⟨by rw [hz.out] <;> rfl, rfl⟩
        · by_cases h2 : 65536 < x
          · have hz := Lib.hid (sz_no (not_ok_side hlt2 (.inr (HX.out ▸ h2))))
            clear hlt2
            go_wp2
            go_ret2
            exact ⟨by rw [hz.out] <;> rfl, rfl⟩
          · have hs := Lib.hid (zer_snoc hlt2)
            clear hlt2
            by_cases h3 : x = 0
            · have h3' := Lib.hid h3
              have h3b : (x == 0) = true := by rw [h3]; rfl
              clear h3
              go_wp2
              go_round
              case rel => exact ⟨k + 1, _, by omega, by go_num, rfl, fun j hj => by
                  rcases Nat.lt_or_ge j k with h3 | h3
                  · exact HK.out j h3
                  · obtain rfl : j = k := by omega
                    rw [← HX.out]; omega, by rw [hs.out, ← HX.out, if_pos h3'.out]⟩
              case measure => simp [intOf]; omega
            · have h3' := Lib.hid h3
              have h3b : (x == 0) = false := by simpa using h3
              clear h3
              go_wp2
              go_round
              case rel => exact ⟨k + 1, p, by omega, by go_num, rfl, fun j hj => by
                  rcases Nat.lt_or_ge j k with h3 | h3
                  · exact HK.out j h3
                  · obtain rfl : j = k := by omega
                    rw [← HX.out]; omega, by rw [hs.out, ← HX.out, if_neg h3'.out, ← HP.out]⟩
              case measure => simp [intOf]; omega
      · obtain rfl : k = n := by omega
        have ht : s.take k = s := List.take_of_length_le (by rw [HN.out]; omega)
        rw [ht] at HP
        have hall : ∀ j, j < s.length → 0 ≤ ith s j ∧ ith s j ≤ 65536 := fun j hj => HK.out j (by rw [HN.out] at hj; exact hj)
        rcases zer_01 s with h0 | h1
        · obtain rfl : p = 0 := by rw [HP.out, h0]
          have hz := Lib.hid (sz_yes (s := s) ⟨by rw [HN.out]; exact h4, all_ith hall, by rw [zer_end0 h0]; omega⟩)
          have hq := Lib.hid (zer_end0 h0)
          clear hall ht h0 hlt
          go_wp2
          go_loop [4, 6] (fun z i => z = .int .i64 0 ∧ i = .int .i64 0) (fun _ i => 0)
          case atStart => exact ⟨rfl, rfl⟩
          case round =>
            obtain ⟨rfl, rfl⟩ := hrel
            by_cases h6 : 0 < k
            · go_wp2
              go_ret2
              exact ⟨by rw [hz.out, hq.out] <;> rfl, rfl⟩
            · go_wp2
              go_ret2
              exact ⟨by rw [hz.out, hq.out] <;> rfl, rfl⟩
        · obtain rfl : p = 1 := by rw [HP.out, h1]
          have hpos := Lib.hid (zer_end1 h1 hall)
          have HA := Lib.hid hall
          clear hall ht h1 hlt
          go_wp2
          go_loop [4, 6] (fun z i => ∃ (j : Nat) (p : Int), j ≤ k ∧ i = .int .i64 j ∧ z = .int .i64 p ∧ 0 < p ∧ p ≤ 65536 ∧ p = prodA (s.take j)) (fun _ i => k - (intOf i).toNat)
          case atStart => exact ⟨0, 1, by omega, rfl, rfl, by omega, by omega, rfl⟩
          case round =>
            obtain ⟨j, p, hj, rfl, rfl, hp0, hp1, hp⟩ := hrel
            have HQ := Lib.hid hp
            clear hp
            by_cases hlt : j < k
            · have hlt2 : j < s.length := by rw [HN.out]; exact hlt
              obtain ⟨b, o, rfl, hb, c0⟩ := H.out.at_ hlt2
              obtain ⟨x, hx⟩ : ∃ x, x = ith s j := ⟨_, rfl⟩
              have HX := Lib.hid hx
              rw [← hx] at c0
              clear hx
              have hxb : 0 ≤ x ∧ x ≤ 65536 := by rw [HX.out]; exact HA.out j hlt2
              have hm := mul_bound (show 0 ≤ p ∧ p ≤ 65536 by omega) hxb
              obtain ⟨hm1, hm2⟩ := hm
              obtain ⟨hx1, hx2⟩ := hxb
              have hs := Lib.hid (show p * x = prodA (s.take (j + 1)) by rw [prod_snoc s hlt2, HQ.out, HX.out])
              clear hlt2
              by_cases h7 : 65536 < p * x
              · have hz := Lib.hid (sz_no (prod_over hpos.out (j + 1) (by rw [← hs.out]; exact h7)))
                go_wp2
                go_ret2
                exact ⟨by rw [hz.out] <;> rfl, rfl⟩
              · have hpp : 0 < p * x := by rw [hs.out]; exact prodA_pos (pos_take hpos.out _)
                go_wp2
                go_round
                case rel => exact ⟨j + 1, _, by omega, by go_num, rfl, hpp, by omega, hs.out⟩
                case measure => simp [intOf]; omega
            · obtain rfl : j = k := by omega
              have ht : s.take j = s := List.take_of_length_le (by rw [HN.out]; omega)
              rw [ht] at HQ
              have hz := Lib.hid (sz_yes (s := s) ⟨by rw [HN.out]; exact h4, all_ith HA.out, by rw [← HQ.out]; exact hp1⟩)
              clear ht
              go_wp2
              go_ret2
              exact ⟨by rw [hz.out, ← HQ.out] <;> rfl, rfl⟩
  · have hz := Lib.hid (sz_no (not_ok_len (s := s) (by rw [HN.out]; omega)))
    go_enter Try.func11, Try.ntmps11
    go_wp2
    go_ret2
    exact ⟨by rw [hz.out] <;> rfl, rfl⟩
end Go.Proofs.Ytedfjmidcljmoaa
