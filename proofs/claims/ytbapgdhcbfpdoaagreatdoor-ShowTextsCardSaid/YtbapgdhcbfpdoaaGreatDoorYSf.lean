/- Contract of the document's Items, in both directions. -/
import Derived.Test.YtbapgdhcbfpdoaaGreatDoorYSe
import Derived.Test.YtbapgdhcbfpdoaaGreatDoorYPi
namespace Go.Proofs.YtbapgdhcbfpdoaaGreatDoor
open Go.RowKit
set_option linter.unusedVariables false
/-- What the two lists' comparison gives. -/
structure Cmp (l m : List It) (D : Bool) : Prop where
  ne : ∀ k, k < l.length → k < m.length → zI (l.getD k default) ≠ zI (m.getD k default) → D = false
  eq : l.length = m.length → (∀ k, k < l.length → zI (l.getD k default) = zI (m.getD k default)) → D = true
  len : l.length ≠ m.length → D = false
theorem Cmp.of (l m : List It) : Cmp l m (decide (l.map zI = m.map zI)) :=
  ⟨fun k h1 h2 h => decide_eq_false (its_ne h1 h2 h), fun h1 h => decide_eq_true (its_eq h1 h), fun h => decide_eq_false fun e => h (by have := congrArg List.length e; simpa using this)⟩
end Go.Proofs.YtbapgdhcbfpdoaaGreatDoor
