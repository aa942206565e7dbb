/- Values of monomials: plain numbers; contracts: product, size. -/
import Derived.Test.YtogflbpphacokaaShelf
import Derived.Test.YtogflbpphacokaaPolyD
namespace Go.Proofs.Ytogflbpphacokaa
open Go.RowKit

/-- What is above 2^62 is 2^62 + 1. -/
def satN (x : Nat) : Nat := if x ≤ 4611686018427387904 then x else 4611686018427387905
theorem satN_le (x : Nat) : satN x ≤ 4611686018427387905 := by unfold satN; split <;> omega
theorem satN_mul (x d : Nat) : satN (satN x * d) = satN (x * d) := by
  by_cases h : x ≤ 4611686018427387904
  · rw [show satN x = x from if_pos h]
  · rw [show satN x = 4611686018427387905 from if_neg h]
    rcases Nat.eq_zero_or_pos d with rfl | hd
    · rfl
    · have h1 : 4611686018427387905 * 1 ≤ 4611686018427387905 * d := Nat.mul_le_mul_left _ hd
      have h2 : x * 1 ≤ x * d := Nat.mul_le_mul_left _ hd
      unfold satN; rw [if_neg (by omega), if_neg (by omega)]
/-- The product of the first k variables, each to its exponent. -/
def monTo (D : Nat → Nat) (m : Mo) (k : Nat) : Nat := match k with
  | 0 => 1
  | k + 1 => monTo D m k * D k ^ (m.e k).toNat
def mon (D : Nat → Nat) (m : Mo) : Nat := monTo D m 6
def sizeM (D : Nat → Nat) (m : Mo) : Nat := m.n.natAbs * mon D m

set_option maxHeartbeats 400000 in
theorem product_any (a b : Nat) (ha : a < 18446744073709551616) (hb : b < 18446744073709551616) (w : World) : Calls Try.prog 49 #[.int .u64 a, .int .u64 b] w fun e w' => e = .returned (.int .u64 (satN (a * b) : Nat)) ∧ w' = w := by
  have hc0 := Try.bits_Mul64 a b ha hb w
  have hq : a * b ≤ 4611686018427387904 ↔ (a * b / 18446744073709551616 = 0 ∧ a * b % 18446744073709551616 ≤ 4611686018427387904) := by omega
  have hq2 : a * b / 18446744073709551616 = 0 → a * b % 18446744073709551616 = a * b := by omega
  obtain ⟨hi, hhi⟩ : ∃ hi, hi = a * b / 18446744073709551616 := ⟨_, rfl⟩
  obtain ⟨lo, hlo⟩ : ∃ lo, lo = a * b % 18446744073709551616 := ⟨_, rfl⟩
  rw [← hhi, ← hlo] at hq
  rw [← hhi, ← hlo] at hq2
  rw [← hhi, ← hlo] at hc0
  have hc := Lib.hid hc0
  clear hc0 hhi hlo ha hb
  by_cases h0 : 0 < hi
  · have hs := Lib.hid (show satN (a * b) = 4611686018427387905 from if_neg (by omega))
    clear hq hq2
    go_enter Try.func49, Try.ntmps49
    go_wp2_with (go_at_call 54; refine hc.out.mono ?_; rintro e w' ⟨rfl, rfl⟩)
    go_ret
    exact ⟨by rw [hs.out]; rfl, rfl⟩
  · by_cases h1 : lo ≤ 4611686018427387904
    · have hs := Lib.hid (show satN (a * b) = lo by rw [show satN (a * b) = a * b from if_pos (by omega)]; omega)
      clear hq hq2
      go_enter Try.func49, Try.ntmps49
      go_wp2_with (go_at_call 54; refine hc.out.mono ?_; rintro e w' ⟨rfl, rfl⟩)
      go_ret
      exact ⟨by rw [hs.out]; rfl, rfl⟩
    · have hs := Lib.hid (show satN (a * b) = 4611686018427387905 from if_neg (by omega))
      clear hq hq2
      go_enter Try.func49, Try.ntmps49
      go_wp2_with (go_at_call 54; refine hc.out.mono ?_; rintro e w' ⟨rfl, rfl⟩)
      go_ret
      exact ⟨by rw [hs.out]; rfl, rfl⟩

theorem idxG (b v : Nat) (hv : v < 6) (w : World) : (Instr.indexAt 58 (.pointer (some ⟨b, 0, none⟩)) (.int .i64 v)).run Try.prog w = .ok (.pointer (some ⟨b, v, none⟩)) w := by
  have e := WideShapes.add_plain b 0 v
  have h1 : (v : Int) < 6 := by omega
  go_simp
theorem boxval (w : World) (m : Mo) (D : Nat → Nat) {k : Nat} (hk : k < 6) : ((w.alloc (.cells #[.int .i64 m.n, .int .u8 m.e0, .int .u8 m.e1, .int .u8 m.e2, .int .u8 m.e3, .int .u8 m.e4, .int .u8 m.e5] 44)).alloc (.cells #[.int .u64 ((D 0 : Nat) : Int), .int .u64 ((D 1 : Nat) : Int), .int .u64 ((D 2 : Nat) : Int), .int .u64 ((D 3 : Nat) : Int), .int .u64 ((D 4 : Nat) : Int), .int .u64 ((D 5 : Nat) : Int)] 58)).cell? ⟨w.heap.size + 1, k, none⟩ = some (.int .u64 (D k : Nat)) := by
  match k, hk with
  | 0, _ => go_simp <;> rfl
  | 1, _ => go_simp <;> rfl
  | 2, _ => go_simp <;> rfl
  | 3, _ => go_simp <;> rfl
  | 4, _ => go_simp <;> rfl
  | 5, _ => go_simp <;> rfl

set_option maxHeartbeats 1000000 in
theorem size_any (m : Mo) (hm : m.wf) (hn : -4611686018427387904 ≤ m.n ∧ m.n ≤ 4611686018427387904) (D : Nat → Nat) (hD : ∀ k, D k ≤ 2147483648) (w : World) : Calls Try.prog 45 #[.agg #[.int .i64 m.n, .int .u8 m.e0, .int .u8 m.e1, .int .u8 m.e2, .int .u8 m.e3, .int .u8 m.e4, .int .u8 m.e5], .agg #[.int .u64 ((D 0 : Nat) : Int), .int .u64 ((D 1 : Nat) : Int), .int .u64 ((D 2 : Nat) : Int), .int .u64 ((D 3 : Nat) : Int), .int .u64 ((D 4 : Nat) : Int), .int .u64 ((D 5 : Nat) : Int)]] w fun e w' => e = .returned (.int .u64 (satN (sizeM D m) : Nat)) ∧ Gr w w' := by
  have HN := Lib.hid hn
  have HM := Lib.hid hm
  have HD := Lib.hid hD
  clear hm hD
  obtain ⟨hn1, hn2⟩ := hn
  go_enter Try.func45, Try.ntmps45
  go_wp2
  all_goals
    go_loop [5, 17] (fun n i => ∃ k : Nat, k ≤ 6 ∧ i = .int .i64 k ∧ n = .int .u64 (satN (m.n.natAbs * monTo D m k) : Nat)) (fun _ i => 6 - (intOf i).toNat)
    case atStart => exact ⟨0, by omega, rfl, by congr 1; unfold satN monTo; split <;> omega⟩
    case round =>
      obtain ⟨k, hk, rfl, rfl⟩ := hrel
      by_cases hlt : k < 6
      · have hi := idx42 m k hlt
        have he := HM.out.2 k
        go_wp2
        go_loop [5, 22] (fun n j => ∃ i : Nat, (i : Int) ≤ m.e k ∧ j = .int .u8 i ∧ n = .int .u64 (satN (m.n.natAbs * monTo D m k * D k ^ i) : Nat)) (fun _ j => (m.e k - intOf j).toNat)
        case atStart => exact ⟨0, by omega, rfl, by rw [Nat.pow_zero, Nat.mul_one]⟩
        case round =>
          obtain ⟨i, hi2, rfl, rfl⟩ := hrel
          by_cases hlt2 : (i : Int) < m.e k
          · have hbv := boxval w m D hlt
            have q1 := idxG (w.heap.size + 1) k hlt
            have hd := HD.out k
            have hs := satN_le (m.n.natAbs * monTo D m k * D k ^ i)
            have hp := product_any (satN (m.n.natAbs * monTo D m k * D k ^ i)) (D k) (by omega) (by omega)
            have hmul : m.n.natAbs * monTo D m k * D k ^ i * D k = m.n.natAbs * monTo D m k * D k ^ (i + 1) := by rw [Nat.pow_succ, Nat.mul_assoc (m.n.natAbs * monTo D m k)]
            rw [satN_mul, hmul] at hp
            clear hmul
            have HP := Lib.hid hp
            clear hp
            go_wp2_with (go_at_call 49; refine (HP.out _).mono ?_; rintro e w' ⟨rfl, rfl⟩)
            go_round
            case rel => exact ⟨i + 1, by omega, by go_num, rfl⟩
            case measure => simp [intOf]; omega
          · have hie : i = (m.e k).toNat := by omega
            have HIE := Lib.hid hie
            clear hie
            go_wp2
            go_round
            case rel => exact ⟨k + 1, by omega, by go_num, by rw [HIE.out, Nat.mul_assoc]; rfl⟩
            case measure => simp [intOf]; omega
      · obtain rfl : k = 6 := by omega
        go_wp2
        go_ret
        exact ⟨rfl, ((Gr.refl _).alloc _).alloc _⟩
end Go.Proofs.Ytogflbpphacokaa
