/- More that the laws of layer 3 use. -/
import Derived.Test.YtphcjpomneejmaaDoorLexLift
namespace Go.Proofs.YtphcjpomneejmaaDoor
open Go.RowKit
theorem same_at (A B : Option Addr) (p q : List Tk) (n m c d : Nat) (f v : Int) (w : World) (hn : p.length = n) (hm : q.length = m) (h : Rd w w.heap.size A p) (g : Rd w w.heap.size B q) (hl : p.length ≤ 140737488355328) (hq : q = p.map (sh f v)) (hv : 0 ≤ v ∧ v ≤ 1000000) (hb : ∀ t ∈ p, 0 ≤ t.a ∧ t.a ≤ 1000000) :
    Calls Tryd.prog 14 #[.slice A n c, .slice B m d, .int .i64 f, .int .i64 v] w fun e w' => e = .returned (.bool true) ∧ Below w.heap.size w w' := by
  subst hn hm
  exact same_any A B p q c d f v w h g hl hq hv hb
end Go.Proofs.YtphcjpomneejmaaDoor
