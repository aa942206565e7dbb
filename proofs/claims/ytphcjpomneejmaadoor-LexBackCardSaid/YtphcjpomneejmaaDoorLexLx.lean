/- More that the laws of layer 3 use. -/
import Derived.Test.YtphcjpomneejmaaDoorLexLw
namespace Go.Proofs.YtphcjpomneejmaaDoor
open Go.RowKit
theorem pw_at {l : List Tk} (h : l.Pairwise (fun x y => x.a < y.a)) {k : Nat} (h0 : 0 < k) (hk : k < l.length) : (nth l (k - 1)).a < (nth l k).a := by
  rw [nth_get hk, nth_get (show k - 1 < l.length by omega)]
  exact List.pairwise_iff_getElem.1 h _ _ _ _ (by omega)
theorem split_at {l : List Tk} {k : Nat} (hk : k < l.length) : l = l.take k ++ nth l k :: l.drop (k + 1) := by
  rw [nth_get hk, List.getElem_cons_drop, List.take_append_drop]
/-- The number that a law takes of a list: which one it is. -/
theorem pick_at (a : Int) {n : Nat} (h : 0 < n) : ∃ k : Nat, k < n ∧ IntKind.u64.wrap a % (n : Int) = (k : Int) := by
  have h1 := Int.emod_nonneg (IntKind.u64.wrap a) (show (n : Int) ≠ 0 by omega)
  have h2 := Int.emod_lt_of_pos (IntKind.u64.wrap a) (show (0 : Int) < n by omega)
  exact ⟨(IntKind.u64.wrap a % (n : Int)).toNat, by omega, by omega⟩
end Go.Proofs.YtphcjpomneejmaaDoor
