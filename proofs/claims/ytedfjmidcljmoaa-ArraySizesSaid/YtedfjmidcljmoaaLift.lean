
/- What every law of this seat is lifted by: the arguments read on in a world that has at most new blocks. -/
import Derived.Test.YtedfjmidcljmoaaRows
import Derived.WalkKit
import Derived.ProofKit
import Derived.OpenShut
import Derived.WideKeyArgs
import Derived.Below
namespace Go.Proofs.Ytedfjmidcljmoaa
open Go.ChangeShapes Go.WideShapes Go.ChangeAt Go.RowKit Go.WideElems
theorem lawOwn : ownKnob Try.prog.godebug = none := by kernel_rfl
theorem lawLaid : laidOutB Try.prog = true := by kernel_rfl
theorem grownBlock {W W' : World} (hg : Grown W W') {i : Nat} (hi : i < W.heap.size) : W'.heap[i]? = W.heap[i]? := by
  have hk := hg.1.2.2 i hi
  split at hk
  · rename_i c t fr c' t' fr' e1 e2
    obtain ⟨h1, h2, _, h4⟩ := hk
    have hc : c' = c := Array.ext_getElem? fun j => h4 j (fun h => h)
    rw [e1, e2, h1, h2, hc]
  · rename_i e1 e2
    rcases hk with h | ⟨h1, h2⟩
    · exact h.elim
    · rw [e1, e2, h1, h2]
  · exact hk
theorem grownCell {W W' : World} (hg : Grown W W') (a : Addr) (hi : a.block < W.heap.size) : W'.cell? a = W.cell? a := by
  unfold World.cell?; rw [grownBlock hg hi]
theorem grownSame {W W' : World} (hg : Grown W W') {p : MemPlace} (hp : p.block < W.heap.size) : W.sameAt W' p := by
  cases p with
  | cell b o => exact grownCell hg _ hp
  | map b => exact grownBlock hg hp
theorem lawArgs {H : Type} {enc : TypeId × Value → H} {W W' : World} (hg : Grown W W') {sp : Nat → Bool} : ∀ {ts : List TypeId} {vs : List Value} {ds : List (DataW H)} {p : List MemPlace},
    (ts.all fun t => Try.prog.readableRec t && decide (t < Try.prog.types.size)) = true → DataW.TrodAll enc Try.prog W 0 (fun _ => true) true ts vs ds p → (∀ q ∈ p, q.block < W.heap.size) → (∀ q ∈ p, sp q.block = true) → DataW.TrodAll enc Try.prog W' 0 sp true ts vs ds p := by
  intro ts
  induction ts with
  | nil =>
    intro vs ds p _ h _ _
    cases vs <;> cases ds <;> simp only [DataW.TrodAll] at h ⊢ <;> exact h
  | cons t ts ih =>
    intro vs ds p hr h hlt hs
    cases vs with
    | nil => exact h.elim
    | cons v vs =>
      cases ds with
      | nil => exact h.elim
      | cons d ds =>
        obtain ⟨p0, q0, h0, h1, rfl⟩ := h
        rw [List.all_cons, Bool.and_eq_true, Bool.and_eq_true, decide_eq_true_eq] at hr
        exact ⟨p0, q0, Trod_stays lawLaid hr.1.1 hr.1.2 h0 (fun q hq => grownSame hg (hlt q (List.mem_append_left _ hq))) (fun q hq => hs q (List.mem_append_left _ hq)),
          ih hr.2 h1 (fun q hq => hlt q (List.mem_append_right _ hq)) (fun q hq => hs q (List.mem_append_right _ hq)), rfl⟩
end Go.Proofs.Ytedfjmidcljmoaa
