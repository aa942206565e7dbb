/- What digits spell; laws of how a text is cut: imports nothing of the program. -/
import Derived.Lib.ParseIntBTie
import Derived.Test.YtphcjpomneejmaaDoorLexM
namespace Go.Proofs.YtphcjpomneejmaaDoor
open Go.RowKit
/-! ### numbers -/
theorem mag_ge : ∀ (ds : List UInt8) (acc : Nat), acc ≤ mag acc ds
  | [], _ => Nat.le_refl _
  | c :: r, acc => by
    have := mag_ge r (acc * 10 + (c.toNat - 48))
    rw [mag_cons]; omega
theorem digB_iff (c : UInt8) : digB c = true ↔ 48 ≤ c.toNat ∧ c.toNat ≤ 57 := by unfold digB; simp

theorem uint_ok (ds : List UInt8) : ∀ (acc : Nat), (∀ c ∈ ds, digB c = true) → mag acc ds < 18446744073709551616 → Lib.parseUint10 acc ds = .ok (mag acc ds) := by
  induction ds with
  | nil => intro acc _ _; rfl
  | cons c r ih =>
    intro acc hd h
    have hc := (digB_iff c).1 (hd c (by simp))
    rw [mag_cons] at h ⊢
    have hge := mag_ge r (acc * 10 + (c.toNat - 48))
    rw [Lib.parseUint10, if_pos hc, if_neg (by omega), if_neg (by omega)]
    exact ih _ (fun c hc => hd c (by simp [hc])) h
theorem uint_range (ds : List UInt8) : ∀ (acc : Nat), (∀ c ∈ ds, digB c = true) → acc < 18446744073709551616 → 18446744073709551616 ≤ mag acc ds → Lib.parseUint10 acc ds = .range := by
  induction ds with
  | nil => intro acc _ h0 h; have e : mag acc [] = acc := rfl; omega
  | cons c r ih =>
    intro acc hd h0 h
    have hc := (digB_iff c).1 (hd c (by simp))
    rw [mag_cons] at h
    rw [Lib.parseUint10, if_pos hc]
    by_cases h1 : 1844674407370955162 ≤ acc
    · rw [if_pos h1]
    · rw [if_neg h1]
      by_cases h2 : 18446744073709551616 ≤ acc * 10 + (c.toNat - 48)
      · rw [if_pos h2]
      · rw [if_neg h2]
        exact ih _ (fun c hc => hd c (by simp [hc])) (by omega) h
def numE (o : Option Int) : Lib.NumEnd Int := match o with
  | some v => .ok v
  | none => .range
theorem two63 : (2 : Nat) ^ (64 - 1) = 9223372036854775808 := by decide
theorem mag_uint (ds : List UInt8) (h0 : ds ≠ []) (hd : ∀ c ∈ ds, digB c = true) : (mag 0 ds < 18446744073709551616 ∧ Lib.parseUintB 64 ds = .ok (mag 0 ds)) ∨ (18446744073709551616 ≤ mag 0 ds ∧ Lib.parseUintB 64 ds = .range) := by
  rw [Lib.parseUintB_64, Lib.parseMag, if_neg h0]
  rcases Nat.lt_or_ge (mag 0 ds) 18446744073709551616 with h | h
  · exact .inl ⟨h, uint_ok ds 0 hd h⟩
  · exact .inr ⟨h, uint_range ds 0 hd (by omega) h⟩
theorem parse_neg (ds : List UInt8) (h0 : ds ≠ []) (hd : ∀ c ∈ ds, digB c = true) : Lib.parseIntB 64 (45 :: ds) = numE (numR true ds) := by
  rw [Lib.parseIntB_minus, two63]
  rcases mag_uint ds h0 hd with ⟨h, e⟩ | ⟨h, e⟩
  · rw [e]
    unfold numR Lib.signedC
    dsimp only
    rw [if_pos rfl]
    rcases Nat.lt_or_ge 9223372036854775808 (mag 0 ds) with h1 | h1
    · rw [if_pos h1, if_neg (by omega)]; rfl
    · rw [if_neg (by omega), if_pos h1]; rfl
  · rw [e]
    unfold numR Lib.signedC
    dsimp only
    rw [if_pos rfl, if_neg (by omega)]; rfl
theorem parse_pos (c : UInt8) (r : List UInt8) (hd : ∀ d ∈ c :: r, digB d = true) : Lib.parseIntB 64 (c :: r) = numE (numR false (c :: r)) := by
  have hc := (digB_iff c).1 (hd c (by simp))
  rw [Lib.parseIntB_plain _ _ _ (by omega) (by omega), two63]
  rcases mag_uint (c :: r) (by simp) hd with ⟨h, e⟩ | ⟨h, e⟩
  · rw [e]
    unfold numR Lib.signlessC
    dsimp only
    rw [if_neg Bool.false_ne_true]
    rcases Nat.lt_or_ge (mag 0 (c :: r)) 9223372036854775808 with h1 | h1
    · rw [if_neg (by omega), if_pos h1]; rfl
    · rw [if_pos h1, if_neg (by omega)]; rfl
  · rw [e]
    unfold numR Lib.signlessC
    dsimp only
    rw [if_neg Bool.false_ne_true, if_neg (by omega)]; rfl
end Go.Proofs.YtphcjpomneejmaaDoor
