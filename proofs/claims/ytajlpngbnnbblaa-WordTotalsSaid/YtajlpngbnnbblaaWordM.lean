/- Plain mathematics for layer 1: quotients rounded down, residues, numbers that go round. Imports nothing of the program. -/
import Derived.RowKit
import Derived.IntWalk
import Derived.Laws.BitsLemmas
namespace Go.Proofs.Ytajlpngbnnbblaa
open Go.RowKit

/-- The quotient rounded down, going round. -/
def qt (a b : Int) : Int := wrap64 (a.fdiv b)
/-- The residue of b by a. -/
def rs (a b : Int) : Int := if a = 0 then b else b.fmod a

theorem wrap64_bmod (x : Int) : wrap64 x = x.bmod 18446744073709551616 := by
  unfold wrap64; rw [Int.bmod_def]; split <;> omega
theorem wrap64_wrap_sub (x y : Int) : wrap64 (wrap64 x - y) = wrap64 (x - y) := by
  unfold wrap64; omega
theorem wrap64_wrap_add (x y : Int) : wrap64 (wrap64 x + y) = wrap64 (x + y) := by
  unfold wrap64; omega
theorem wrap64_add_wrap (x y : Int) : wrap64 (x + wrap64 y) = wrap64 (x + y) := by
  unfold wrap64; omega
theorem wrap64_sub_wrap (x y : Int) : wrap64 (x - wrap64 y) = wrap64 (x - y) := by
  unfold wrap64; omega
theorem wrap64_wrap (x : Int) : wrap64 (wrap64 x) = wrap64 x := by
  unfold wrap64; omega
theorem wrap64_wrap_mul (x y : Int) : wrap64 (wrap64 x * y) = wrap64 (x * y) := by
  simp only [wrap64_bmod, Int.bmod_mul_bmod]
theorem wrap64_mul_wrap (x y : Int) : wrap64 (x * wrap64 y) = wrap64 (x * y) := by
  simp only [wrap64_bmod, Int.mul_bmod_bmod]
theorem wrap64_rng (x : Int) : -9223372036854775808 ≤ wrap64 x ∧ wrap64 x ≤ 9223372036854775807 := by
  unfold wrap64; omega

theorem dvd_tmod (a b : Int) : b ∣ a ↔ a.tmod b = 0 := Int.dvd_iff_tmod_eq_zero
theorem qt_even (a b : Int) (h : a.tmod b = 0) : qt a b = wrap64 (a.tdiv b) := by
  have hd := (dvd_tmod a b).2 h
  unfold qt; rw [Int.fdiv_eq_tdiv, if_pos hd, Int.sub_zero]
theorem qt_down (a b : Int) (hb : ¬ b = 0) (h : ¬ a.tmod b = 0) (hs : (!(decide (a < 0) == decide (b < 0))) = true) : qt a b = wrap64 (wrap64 (a.tdiv b) - 1) := by
  have hd : ¬ b ∣ a := fun x => h ((dvd_tmod a b).1 x)
  rw [wrap64_wrap_sub]; unfold qt; rw [Int.fdiv_eq_tdiv, if_neg hd]
  by_cases h1 : a < 0 <;> by_cases h2 : b < 0 <;> simp [h1, h2] at hs
  · rw [if_neg (by omega), if_pos (by omega), Int.sign_eq_one_of_pos (by omega)]
  · rw [if_pos (by omega), if_neg (by omega)]
theorem qt_same (a b : Int) (h : ¬ a.tmod b = 0) (hs : (a.tmod b != 0) = false ∨ (!(decide (a < 0) == decide (b < 0))) = false) : qt a b = wrap64 (a.tdiv b) := by
  have hd : ¬ b ∣ a := fun x => h ((dvd_tmod a b).1 x)
  have hs : (!(decide (a < 0) == decide (b < 0))) = false := by
    rcases hs with hs | hs
    · simp at hs; exact absurd hs h
    · exact hs
  unfold qt; rw [Int.fdiv_eq_tdiv, if_neg hd]
  by_cases h1 : a < 0 <;> by_cases h2 : b < 0 <;> simp [h1, h2] at hs
  · rw [if_neg (by omega), if_neg (by omega), Int.sign_eq_neg_one_of_neg (by omega)]; congr 1; omega
  · rw [if_pos (by omega), if_pos (by omega)]; congr 1; omega
theorem qt_m1 (a : Int) : qt a (-1) = wrap64 (-a) := by
  unfold qt; rw [Int.fdiv_eq_ediv, if_pos (Or.inr ⟨-a, by omega⟩)]; congr 1; omega
theorem rs_even (a b : Int) (ha : ¬ a = 0) (h : b.tmod a = 0) : rs a b = 0 := by
  have hd := (dvd_tmod b a).2 h
  unfold rs; rw [if_neg ha, Int.fmod_eq_tmod, if_pos hd, h]; rfl
theorem tmod_sgn (a b : Int) (h : ¬ b.tmod a = 0) : (b.tmod a < 0 ↔ b < 0) := by
  constructor
  · intro h'; by_cases hb : b < 0
    · exact hb
    · have := Int.tmod_nonneg a (show 0 ≤ b by omega); omega
  · intro h'; have h1 := Int.tmod_nonneg a (show 0 ≤ -b by omega); rw [Int.neg_tmod] at h1; omega
theorem rs_rng (a b : Int) (ha : ¬ a = 0) : (0 ≤ rs a b ∧ rs a b < a) ∨ (rs a b ≤ 0 ∧ a < rs a b) := by
  unfold rs; rw [if_neg ha]
  by_cases h : 0 < a
  · left; exact ⟨Int.fmod_nonneg_of_pos b h, Int.fmod_lt_of_pos b h⟩
  · right
    have h1 := Int.fmod_nonneg_of_pos (-b) (show 0 < -a by omega)
    have h2 := Int.fmod_lt_of_pos (-b) (show 0 < -a by omega)
    rw [Int.neg_fmod_neg] at h1 h2
    omega
theorem rs_up (a b : Int) (ha : ¬ a = 0) (wa : -9223372036854775808 ≤ a ∧ a ≤ 9223372036854775807) (h : ¬ b.tmod a = 0) (hs : (!(decide (b.tmod a < 0) == decide (a < 0))) = true) : rs a b = wrap64 (b.tmod a + a) := by
  have hd : ¬ a ∣ b := fun x => h ((dvd_tmod b a).1 x)
  have hr := rs_rng a b ha
  have e : rs a b = b.tmod a + a := by
    unfold rs; rw [if_neg ha, Int.fmod_eq_tmod, if_neg hd]
    have hsg := tmod_sgn a b h
    by_cases h1 : b < 0 <;> by_cases h2 : a < 0 <;> simp [hsg, h1, h2] at hs
    · rw [if_neg (by omega), if_pos (by omega)]; omega
    · rw [if_pos (by omega), if_neg (by omega)]
  rw [← e, IntWalk.wrap64_in _ (by omega)]
theorem rs_same (a b : Int) (ha : ¬ a = 0) (h : ¬ b.tmod a = 0) (hs : (b.tmod a != 0) = false ∨ (!(decide (b.tmod a < 0) == decide (a < 0))) = false) : rs a b = b.tmod a := by
  have hd : ¬ a ∣ b := fun x => h ((dvd_tmod b a).1 x)
  have hs : (!(decide (b.tmod a < 0) == decide (a < 0))) = false := by
    rcases hs with hs | hs
    · simp at hs; exact absurd hs h
    · exact hs
  unfold rs; rw [if_neg ha, Int.fmod_eq_tmod, if_neg hd]
  have hsg := tmod_sgn a b h
  by_cases h1 : b < 0 <;> by_cases h2 : a < 0 <;> simp [hsg, h1, h2] at hs
  · rw [if_neg (by omega), if_neg (by omega)]; omega
  · rw [if_pos (by omega), if_pos (by omega)]; omega
theorem rs_of_qt (a b : Int) (ha : ¬ a = 0) (wa : -9223372036854775808 ≤ a ∧ a ≤ 9223372036854775807) : wrap64 (b - wrap64 (a * qt b a)) = rs a b := by
  have hr := rs_rng a b ha
  unfold qt
  rw [wrap64_sub_wrap, ← wrap64_sub_wrap b (a * _), wrap64_mul_wrap, wrap64_sub_wrap]
  have := Int.mul_fdiv_add_fmod b a
  have e : b - a * b.fdiv a = rs a b := by unfold rs; rw [if_neg ha]; omega
  rw [e, IntWalk.wrap64_in _ (by omega)]
theorem qt_rs (a b : Int) (hb : ¬ b = 0) (wa : -9223372036854775808 ≤ a ∧ a ≤ 9223372036854775807) : wrap64 (wrap64 (qt a b * b) + rs b a) = a := by
  unfold qt
  rw [wrap64_wrap_add, ← wrap64_wrap_add (_ * _), wrap64_wrap_mul, wrap64_wrap_add]
  have := Int.mul_fdiv_add_fmod a b
  have e : a.fdiv b * b + rs b a = a := by unfold rs; rw [if_neg hb, Int.mul_comm]; omega
  rw [e, IntWalk.wrap64_in _ (by omega)]

/-! ### powers -/
def pw (a b : Int) : Int := wrap64 (a ^ b.toNat)
theorem wrap64_pow_wrap (x : Int) (n : Nat) : wrap64 (wrap64 x ^ n) = wrap64 (x ^ n) := by
  induction n with
  | zero => rw [Int.pow_zero, Int.pow_zero]
  | succ n ih => rw [Int.pow_succ, Int.pow_succ, wrap64_mul_wrap, ← wrap64_wrap_mul, ih, wrap64_wrap_mul]
theorem pw_succ (a n : Int) (hn : 0 ≤ n) : pw a (n + 1) = wrap64 (pw a n * a) := by
  unfold pw
  rw [show (n + 1).toNat = n.toNat + 1 from by omega, Int.pow_succ, wrap64_wrap_mul]
theorem pw_zero (a : Int) : pw a 0 = 1 := by
  unfold pw; rw [show (0 : Int).toNat = 0 from rfl, Int.pow_zero]; exact IntWalk.wrap64_in _ (by omega)
/-- One round of the squaring: even. -/
theorem sq_even (p a : Int) (n : Nat) (h : n % 2 = 0) : wrap64 (p * a ^ n) = wrap64 (p * (wrap64 (a * a)) ^ (n / 2)) := by
  rw [← wrap64_mul_wrap p (wrap64 (a * a) ^ _), wrap64_pow_wrap, wrap64_mul_wrap]
  congr 1; congr 1
  have : n = 2 * (n / 2) := by omega
  generalize n / 2 = m at *
  subst this
  rw [Int.pow_mul, show a ^ 2 = a * a from by rw [Int.pow_succ, Int.pow_succ, Int.pow_zero, Int.one_mul]]
theorem sq_odd (p a : Int) (n : Nat) (h : n % 2 = 1) : wrap64 (p * a ^ n) = wrap64 (wrap64 (p * a) * (wrap64 (a * a)) ^ (n / 2)) := by
  have e := sq_even (wrap64 (p * a)) a (n - 1) (by omega)
  rw [show (n - 1) / 2 = n / 2 from by omega] at e
  rw [← e, wrap64_wrap_mul]
  congr 1
  have : n = (n - 1) + 1 := by omega
  generalize n - 1 = m at *
  subst this
  rw [Int.pow_succ, Int.mul_assoc, Int.mul_comm a]
theorem and_one (n : Int) : bits .and .i64 n 1 = n % 2 := by
  have h1 : (BitVec.ofInt 64 1).toNat = 2 ^ 1 - 1 := by decide
  have key : (BitVec.ofInt 64 n &&& BitVec.ofInt 64 1).toNat = (n % ((2 ^ 64 : Nat) : Int)).toNat % 2 ^ 1 := by
    rw [BitVec.toNat_and, BitVec.toNat_ofInt, h1, Nat.and_two_pow_sub_one_eq_mod]
  show IntKind.i64.wrap ((BitVec.ofInt 64 n &&& BitVec.ofInt 64 1).toNat : Nat) = n % 2
  rw [key, IntKind.wrap_i64]
  omega
theorem bit_rng (n : Int) : bits .and .i64 n 1 = 0 ∨ bits .and .i64 n 1 = 1 := by
  rw [and_one]; omega
theorem sq_end (p a b : Int) (h0 : 0 ≤ b) (h : b ≤ 0) (h2 : wrap64 p = p) : wrap64 (p * a ^ b.toNat) = p := by
  obtain rfl : b = 0 := by omega
  rw [show (0 : Int).toNat = 0 from rfl, Int.pow_zero, Int.mul_one, h2]
theorem sq_round_t (v p a b : Int) (h : v = wrap64 (p * a ^ b.toNat)) (h0 : 0 < b) (h1 : (b % 2 == 1) = true) : v = wrap64 (wrap64 (p * a) * (wrap64 (a * a)) ^ (b / 2).toNat) := by
  have h1 : b % 2 = 1 := by simpa using h1
  rw [h, sq_odd p a _ (by omega)]; congr 2; congr 1; omega
theorem sq_round_f (v p a b : Int) (h : v = wrap64 (p * a ^ b.toNat)) (h0 : 0 < b) (h1 : (b % 2 == 1) = false) : v = wrap64 (p * (wrap64 (a * a)) ^ (b / 2).toNat) := by
  have h1 : ¬ b % 2 = 1 := by simpa using h1
  rw [h, sq_even p a _ (by omega)]; congr 2; congr 1; omega
end Go.Proofs.Ytajlpngbnnbblaa
