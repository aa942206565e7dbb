/- Plain facts on the values of functions of two numbers. -/
import Derived.Test.YtajlpngbnnbblaaWordF
namespace Go.Proofs.Ytajlpngbnnbblaa
open Go.RowKit
theorem dv1 (a b : Int) : dv 1 a b = wrap64 (a + b) := rfl
theorem dv2 (a b : Int) : dv 2 a b = wrap64 (a - b) := rfl
theorem dv3 (a b : Int) : dv 3 a b = wrap64 (a * b) := rfl
theorem dv1_rng (a b : Int) : -9223372036854775808 ≤ dv 1 a b ∧ dv 1 a b ≤ 9223372036854775807 := wrap64_rng _
theorem dv2_rng (a b : Int) : -9223372036854775808 ≤ dv 2 a b ∧ dv 2 a b ≤ 9223372036854775807 := wrap64_rng _
theorem dv3_rng (a b : Int) : -9223372036854775808 ≤ dv 3 a b ∧ dv 3 a b ≤ 9223372036854775807 := wrap64_rng _
theorem i64_rng {a : Int} (h : (Lit.int .i64 a).wf = true) : -9223372036854775808 ≤ a ∧ a ≤ 9223372036854775807 := by
  simpa [Lit.wf, IntKind.min, IntKind.max, IntKind.signed, IntKind.bits] using h
theorem u8_rng {a : Int} (h : (Lit.int .u8 a).wf = true) : 0 ≤ a ∧ a ≤ 255 := by
  simpa [Lit.wf, IntKind.min, IntKind.max, IntKind.signed, IntKind.bits] using h
theorem beq_t {a b : Int} (h : a = b) : (a == b) = true := by rw [h]; exact beq_self_eq_true b
theorem ring1 (a b : Int) : (dv 1 a b == dv 1 b a) = true := beq_t (by rw [dv1, dv1, Int.add_comm])
theorem ring2 (a b : Int) : (dv 3 a b == dv 3 b a) = true := beq_t (by rw [dv3, dv3, Int.mul_comm])
theorem ring3 (a b : Int) (wa : -9223372036854775808 ≤ a ∧ a ≤ 9223372036854775807) : (dv 2 (dv 1 a b) b == a) = true :=
  beq_t (by rw [dv2, dv1, wrap64_wrap_sub, Int.add_sub_cancel, IntWalk.wrap64_in _ wa])
theorem ring4 (a b c : Int) : (dv 1 (dv 1 a b) c == dv 1 a (dv 1 b c)) = true :=
  beq_t (by simp only [dv1]; rw [wrap64_wrap_add, wrap64_add_wrap, Int.add_assoc])
theorem ring5 (a b c : Int) : (dv 3 (dv 3 a b) c == dv 3 a (dv 3 b c)) = true :=
  beq_t (by simp only [dv3]; rw [wrap64_wrap_mul, wrap64_mul_wrap, Int.mul_assoc])
theorem ring6 (a b c : Int) : (dv 3 (dv 1 a b) c == dv 1 (dv 3 a c) (dv 3 b c)) = true :=
  beq_t (by simp only [dv3, dv1]; rw [wrap64_wrap_mul, wrap64_wrap_add, wrap64_add_wrap, Int.add_mul])
theorem dv4_rng (a b : Int) : -9223372036854775808 ≤ dv 4 a b ∧ dv 4 a b ≤ 9223372036854775807 := by
  show -9223372036854775808 ≤ (if b = 0 then 0 else qt a b) ∧ (if b = 0 then 0 else qt a b) ≤ 9223372036854775807
  split
  · omega
  · exact wrap64_rng _
theorem dv5_rng (a b : Int) (wa : -9223372036854775808 ≤ a ∧ a ≤ 9223372036854775807) (wb : -9223372036854775808 ≤ b ∧ b ≤ 9223372036854775807) : -9223372036854775808 ≤ dv 5 b a ∧ dv 5 b a ≤ 9223372036854775807 := by
  show -9223372036854775808 ≤ rs b a ∧ rs b a ≤ 9223372036854775807
  by_cases h : b = 0
  · unfold rs; rw [if_pos h]; exact wa
  · have := rs_rng b a h; omega
theorem dv17_rng (a b : Int) : -9223372036854775808 ≤ dv 17 a b ∧ dv 17 a b ≤ 9223372036854775807 := by
  show -9223372036854775808 ≤ (if b < 0 then 0 else pw a b) ∧ (if b < 0 then 0 else pw a b) ≤ 9223372036854775807
  split
  · omega
  · exact wrap64_rng _
theorem div_back (a b : Int) (hb : ¬ b = 0) (wa : -9223372036854775808 ≤ a ∧ a ≤ 9223372036854775807) : (dv 1 (dv 3 (dv 4 a b) b) (dv 5 b a) == a) = true := by
  refine beq_t ?_
  show wrap64 (wrap64 ((if b = 0 then 0 else qt a b) * b) + rs b a) = a
  rw [if_neg hb]; exact qt_rs a b hb wa
theorem rs_side (a b : Int) (hb : ¬ b = 0) : if b < 0 then (dv 5 b a ≤ 0 ∧ b < dv 5 b a) else (0 ≤ dv 5 b a ∧ dv 5 b a < b) := by
  have h : (0 ≤ rs b a ∧ rs b a < b) ∨ (rs b a ≤ 0 ∧ b < rs b a) := rs_rng b a hb
  show if b < 0 then (rs b a ≤ 0 ∧ b < rs b a) else (0 ≤ rs b a ∧ rs b a < b)
  split <;> omega
theorem pow_next (a n : Int) (hn : 0 ≤ n) : (dv 17 a (n + 1) == dv 3 (dv 17 a n) a) = true := by
  refine beq_t ?_
  show (if n + 1 < 0 then 0 else pw a (n + 1)) = wrap64 ((if n < 0 then 0 else pw a n) * a)
  rw [if_neg (by omega), if_neg (by omega)]; exact pw_succ a n hn
/-- Of a function of two numbers: no error; one, and the value is 0, and it is not told to take all; none of that many. -/
theorem two_errs (f a b : Int) : ((de f a b = 0 ∧ tk2 f = true) ∨ (de f a b = 11 ∧ tk2 f = true ∧ tot2 f = false ∧ dv f a b = 0) ∨ (de f a b = 10 ∧ tk2 f = false ∧ tot2 f = false ∧ dv f a b = 0)) ∧ True := by
  refine ⟨?_, trivial⟩
  by_cases h : (1 ≤ f ∧ f ≤ 15) ∨ f = 17
  · have hk : tk2 f = true := by unfold tk2; exact decide_eq_true h
    by_cases he : de f a b = 0
    · exact Or.inl ⟨he, hk⟩
    · right; left
      rcases (by omega : f = 1 ∨ f = 2 ∨ f = 3 ∨ f = 4 ∨ f = 5 ∨ f = 6 ∨ f = 7 ∨ f = 8 ∨ f = 9 ∨ f = 10 ∨ f = 11 ∨ f = 12 ∨ f = 13 ∨ f = 14 ∨ f = 15 ∨ f = 17) with rfl | rfl | rfl | rfl | rfl | rfl | rfl | rfl | rfl | rfl | rfl | rfl | rfl | rfl | rfl | rfl
      all_goals first | exact absurd rfl he | skip
      · have hb : b = 0 := Classical.byContradiction fun hb => he (by simp [de, hb])
        subst hb; exact ⟨rfl, hk, rfl, rfl⟩
      · have hb : ¬ (truthB a = true ∧ truthB b = true) := fun hb => he (by simp [de, hb])
        exact ⟨by show (if truthB a = true ∧ truthB b = true then (0 : Int) else 11) = 11; rw [if_neg hb], hk, rfl, by show (if truthB a = true ∧ truthB b = true then andV a b else 0) = 0; rw [if_neg hb]⟩
      · have hb : ¬ (truthB a = true ∧ truthB b = true) := fun hb => he (by simp [de, hb])
        exact ⟨by show (if truthB a = true ∧ truthB b = true then (0 : Int) else 11) = 11; rw [if_neg hb], hk, rfl, by show (if truthB a = true ∧ truthB b = true then orV a b else 0) = 0; rw [if_neg hb]⟩
      · have hb : b < 0 := Classical.byContradiction fun hb => he (by simp [de, hb])
        exact ⟨by simp [de, hb], hk, rfl, by show (if b < 0 then 0 else pw a b) = 0; rw [if_pos hb]⟩
  · right; right
    refine ⟨?_, by unfold tk2; exact decide_eq_false h, by unfold tot2; exact decide_eq_false (by omega), ?_⟩
    · unfold de; rw [if_neg (by omega), if_neg (by omega), if_neg (by omega), if_neg (by omega)]
    · unfold dv; repeat (rw [if_neg (by omega)])
theorem one_errs (f a : Int) : ((me f a = 0 ∧ tk1 f = true) ∨ (me f a = 11 ∧ tk1 f = true ∧ tot1 f = false ∧ mv f a = 0) ∨ (me f a = 10 ∧ tk1 f = false ∧ tot1 f = false ∧ mv f a = 0)) ∧ True := by
  refine ⟨?_, trivial⟩
  by_cases h : (1 ≤ f ∧ f ≤ 7) ∨ f = 16
  · have hk : tk1 f = true := by unfold tk1; exact decide_eq_true h
    by_cases he : me f a = 0
    · exact Or.inl ⟨he, hk⟩
    · right; left
      rcases (by omega : f = 1 ∨ f = 2 ∨ f = 3 ∨ f = 4 ∨ f = 5 ∨ f = 6 ∨ f = 7 ∨ f = 16) with rfl | rfl | rfl | rfl | rfl | rfl | rfl | rfl
      all_goals first | exact absurd rfl he | skip
      · have hb : a = 0 := Classical.byContradiction fun hb => he (by simp [me, de, hb])
        subst hb; exact ⟨rfl, hk, rfl, rfl⟩
      · have hb : ¬ truthB a = true := fun hb => he (by simp [me, hb])
        exact ⟨by simp [me, hb], hk, rfl, by simp [mv, hb]⟩
  · right; right
    refine ⟨?_, by unfold tk1; exact decide_eq_false h, by unfold tot1; exact decide_eq_false (by omega), ?_⟩
    · unfold me; rw [if_neg (by omega), if_neg (by omega), if_neg (by omega)]
    · unfold mv; repeat (rw [if_neg (by omega)])
end Go.Proofs.Ytajlpngbnnbblaa
