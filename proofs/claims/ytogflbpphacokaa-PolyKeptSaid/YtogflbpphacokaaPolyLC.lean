/- Results of the laws' calls, by what they are. -/
import Derived.Test.YtogflbpphacokaaPolyRG
namespace Go.Proofs.Ytogflbpphacokaa
open Go.RowKit
def PolyIs (w : World) (a : List Mo) (k : Int) (e : Ending) (w' : World) : Prop :=
  ∃ A c, e = .returned (.tuple #[.slice A a.length c, .int .i64 k]) ∧ Own w' w.heap.size (.slice A a.length c) a ∧ Below w.heap.size w w'
theorem calls_is {f : FuncId} {args : Array Value} {w : World} {r : List Mo × Int} {a : List Mo} {k : Int} (h : Calls Try.prog f args w (PolyRes w r)) (hr : r = (a, k)) : Calls Try.prog f args w (PolyIs w a k) := by
  subst hr; exact h
def EvalIs (w : World) (n k : Int) (e : Ending) (w' : World) : Prop := e = .returned (.tuple #[.int .i64 n, .int .i64 k]) ∧ Gr w w'
theorem evals_is {f : FuncId} {args : Array Value} {w : World} {r : Int × Int} {n k : Int} (h : Calls Try.prog f args w (EvalRes w r)) (hr : r = (n, k)) : Calls Try.prog f args w (EvalIs w n k) := by
  subst hr; exact h
theorem same_is (A B : Option Addr) (l m : List Mo) (c d : Nat) (w : World) (h : Rd w w.heap.size A l) (g : Rd w w.heap.size B m) (hl : l.length ≤ maxLen) (he : l = m) : Calls Try.prog 23 #[.slice A l.length c, .slice B m.length d] w fun e w' => e = .returned (.bool true) ∧ Gr w w' := by
  subst he; exact same_self A B l c d w h g hl
theorem right_is (A : Option Addr) (l : List Mo) (c : Nat) (w : World) (h : Rd w w.heap.size A l) (hl : l.length ≤ maxLen) (hr : rightB l = true) : Calls Try.prog 13 #[.slice A l.length c] w fun e w' => e = .returned (.bool true) ∧ Gr w w' := by
  rw [← hr]; exact right_any A l c w h hl
end Go.Proofs.Ytogflbpphacokaa
