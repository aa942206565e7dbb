/- Plain facts on the values of functions of two numbers. -/
import Derived.Test.YtajlpngbnnbblaaWordF
namespace Go.Proofs.Ytajlpngbnnbblaa
open Go.RowKit
theorem dv1 (a b : Int) : dv 1 a b = wrap64 (a + b) := rfl
theorem dv2 (a b : Int) : dv 2 a b = wrap64 (a - b) := rfl
theorem dv3 (a b : Int) : dv 3 a b = wrap64 (a * b) := rfl
theorem dv1_rng (a b : Int) : -9223372036854775808 ≤ dv 1 a b ∧ dv 1 a b ≤ 9223372036854775807 := wrap64_rng _
theorem dv2_rng (a b : Int) : -9223372036854775808 ≤ dv 2 a b ∧ dv 2 a b ≤ 9223372036854775807 := wrap64_rng _
theorem dv3_rng (a b : Int) : -9223372036854775808 ≤ dv 3 a b ∧ dv 3 a b ≤ 9223372036854775807 := wrap64_rng _
theorem i64_rng {a : Int} (h : (Lit.int .i64 a).wf = true) : -9223372036854775808 ≤ a ∧ a ≤ 9223372036854775807 := by
  simpa [Lit.wf, IntKind.min, IntKind.max, IntKind.signed, IntKind.bits] using h
theorem u8_rng {a : Int} (h : (Lit.int .u8 a).wf = true) : 0 ≤ a ∧ a ≤ 255 := by
  simpa [Lit.wf, IntKind.min, IntKind.max, IntKind.signed, IntKind.bits] using h
theorem beq_t {a b : Int} (h : a = b) : (a == b) = true := by rw [h]; exact beq_self_eq_true b
theorem ring1 (a b : Int) : (dv 1 a b == dv 1 b a) = true := beq_t (by rw [dv1, dv1, Int.add_comm])
theorem ring2 (a b : Int) : (dv 3 a b == dv 3 b a) = true := beq_t (by rw [dv3, dv3, Int.mul_comm])
theorem ring3 (a b : Int) (wa : -9223372036854775808 ≤ a ∧ a ≤ 9223372036854775807) : (dv 2 (dv 1 a b) b == a) = true :=
  beq_t (by rw [dv2, dv1, wrap64_wrap_sub, Int.add_sub_cancel, IntWalk.wrap64_in _ wa])
theorem ring4 (a b c : Int) : (dv 1 (dv 1 a b) c == dv 1 a (dv 1 b c)) = true :=
  beq_t (by simp only [dv1]; rw [wrap64_wrap_add, wrap64_add_wrap, Int.add_assoc])
theorem ring5 (a b c : Int) : (dv 3 (dv 3 a b) c == dv 3 a (dv 3 b c)) = true :=
  beq_t (by simp only [dv3]; rw [wrap64_wrap_mul, wrap64_mul_wrap, Int.mul_assoc])
theorem ring6 (a b c : Int) : (dv 3 (dv 1 a b) c == dv 1 (dv 3 a c) (dv 3 b c)) = true :=
  beq_t (by simp only [dv3, dv1]; rw [wrap64_wrap_mul, wrap64_wrap_add, wrap64_add_wrap, Int.add_mul])
end Go.Proofs.Ytajlpngbnnbblaa
