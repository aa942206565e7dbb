/- Plain facts on what scans. -/
import Derived.Test.YtajlpngbnnbblaaWordG
namespace Go.Proofs.Ytajlpngbnnbblaa
open Go.RowKit
theorem sc_cases (f : Int) : sc f = false ∨ f = 1 ∨ f = 3 ∨ f = 6 ∨ f = 7 ∨ f = 14 ∨ f = 15 := by
  unfold sc
  by_cases h : f = 1 ∨ f = 3 ∨ f = 6 ∨ f = 7 ∨ f = 14 ∨ f = 15
  · exact Or.inr h
  · exact Or.inl (decide_eq_false h)
theorem dvs_rng (f : Int) (hf : f = 1 ∨ f = 3 ∨ f = 6 ∨ f = 7) (a b : Int) (wa : -9223372036854775808 ≤ a ∧ a ≤ 9223372036854775807) (wb : -9223372036854775808 ≤ b ∧ b ≤ 9223372036854775807) : -9223372036854775808 ≤ dv f a b ∧ dv f a b ≤ 9223372036854775807 := by
  rcases hf with rfl | rfl | rfl | rfl
  · exact wrap64_rng _
  · exact wrap64_rng _
  · show _ ≤ min a b ∧ min a b ≤ _; omega
  · show _ ≤ max a b ∧ max a b ≤ _; omega
theorem scan1 (a b c : Int) : (dv 1 (dv 1 a b) c == dv 1 a (dv 1 b c)) = true := ring4 a b c
theorem scan3 (a b c : Int) : (dv 3 (dv 3 a b) c == dv 3 a (dv 3 b c)) = true := ring5 a b c
theorem scan6 (a b c : Int) : (dv 6 (dv 6 a b) c == dv 6 a (dv 6 b c)) = true := beq_t (by show min (min a b) c = min a (min b c); omega)
theorem scan7 (a b c : Int) : (dv 7 (dv 7 a b) c == dv 7 a (dv 7 b c)) = true := beq_t (by show max (max a b) c = max a (max b c); omega)
theorem unit1 (a : Int) (wa : -9223372036854775808 ≤ a ∧ a ≤ 9223372036854775807) : (dv 1 0 a == a) = true := beq_t (by show wrap64 (0 + a) = a; rw [Int.zero_add, IntWalk.wrap64_in _ wa])
theorem unit3 (a : Int) (wa : -9223372036854775808 ≤ a ∧ a ≤ 9223372036854775807) : (dv 3 1 a == a) = true := beq_t (by show wrap64 (1 * a) = a; rw [Int.one_mul, IntWalk.wrap64_in _ wa])
theorem unit6 (a : Int) (wa : -9223372036854775808 ≤ a ∧ a ≤ 9223372036854775807) : (dv 6 9223372036854775807 a == a) = true := beq_t (by show min 9223372036854775807 a = a; omega)
theorem unit7 (a : Int) (wa : -9223372036854775808 ≤ a ∧ a ≤ 9223372036854775807) : (dv 7 (-9223372036854775808) a == a) = true := beq_t (by show max (-9223372036854775808) a = a; omega)
theorem bit_in {x : Int} (h : x = 0 ∨ x = 1) : -9223372036854775808 ≤ x ∧ x ≤ 9223372036854775807 := by omega
theorem bit14_ok (x y : Int) (hx : x = 0 ∨ x = 1) (hy : y = 0 ∨ y = 1) : de 14 x y = 0 := by
  rcases hx with rfl | rfl <;> rcases hy with rfl | rfl <;> rfl
theorem bit14_bit (x y : Int) (hx : x = 0 ∨ x = 1) (hy : y = 0 ∨ y = 1) : dv 14 x y = 0 ∨ dv 14 x y = 1 := by
  rcases hx with rfl | rfl <;> rcases hy with rfl | rfl <;> decide
theorem bit14_assoc (x y z : Int) (hx : x = 0 ∨ x = 1) (hy : y = 0 ∨ y = 1) (hz : z = 0 ∨ z = 1) : (dv 14 (dv 14 x y) z == dv 14 x (dv 14 y z)) = true := by
  rcases hx with rfl | rfl <;> rcases hy with rfl | rfl <;> rcases hz with rfl | rfl <;> decide
theorem bit14_unit (x : Int) (hx : x = 0 ∨ x = 1) : (dv 14 1 x == x) = true := by
  rcases hx with rfl | rfl <;> decide
theorem bit14_uok (x : Int) (hx : x = 0 ∨ x = 1) : de 14 1 x = 0 := by
  rcases hx with rfl | rfl <;> rfl
theorem bit15_ok (x y : Int) (hx : x = 0 ∨ x = 1) (hy : y = 0 ∨ y = 1) : de 15 x y = 0 := by
  rcases hx with rfl | rfl <;> rcases hy with rfl | rfl <;> rfl
theorem bit15_bit (x y : Int) (hx : x = 0 ∨ x = 1) (hy : y = 0 ∨ y = 1) : dv 15 x y = 0 ∨ dv 15 x y = 1 := by
  rcases hx with rfl | rfl <;> rcases hy with rfl | rfl <;> decide
theorem bit15_assoc (x y z : Int) (hx : x = 0 ∨ x = 1) (hy : y = 0 ∨ y = 1) (hz : z = 0 ∨ z = 1) : (dv 15 (dv 15 x y) z == dv 15 x (dv 15 y z)) = true := by
  rcases hx with rfl | rfl <;> rcases hy with rfl | rfl <;> rcases hz with rfl | rfl <;> decide
theorem bit15_unit (x : Int) (hx : x = 0 ∨ x = 1) : (dv 15 0 x == x) = true := by
  rcases hx with rfl | rfl <;> decide
theorem bit15_uok (x : Int) (hx : x = 0 ∨ x = 1) : de 15 0 x = 0 := by
  rcases hx with rfl | rfl <;> rfl
end Go.Proofs.Ytajlpngbnnbblaa
