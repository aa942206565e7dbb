/- Contract of the document's Alike, in both directions, for programs that are read of memory of any kind. -/
import Derived.Test.YtbapgdhcbfpdoaaGreatDoorYSf
namespace Go.Proofs.YtbapgdhcbfpdoaaGreatDoor
open Go.RowKit
set_option linter.unusedVariables false
/-- What the comparison of two programs gives. -/
structure CmpP (p q : Pg) (D : Bool) : Prop where
  nin : p.ins.length ≠ q.ins.length → D = false
  nln : p.lns.length ≠ q.lns.length → D = false
  inn : ∀ k, k < p.ins.length → k < q.ins.length → (p.ins.getD k default).nm ≠ (q.ins.getD k default).nm → D = false
  ins : ∀ k, k < p.ins.length → k < q.ins.length → (p.ins.getD k default).sd ≠ (q.ins.getD k default).sd → D = false
  lnn : ∀ k, k < p.lns.length → k < q.lns.length → (p.lns.getD k default).nm ≠ (q.lns.getD k default).nm → D = false
  lni : ∀ k, k < p.lns.length → k < q.lns.length → (p.lns.getD k default).its.map zI ≠ (q.lns.getD k default).its.map zI → D = false
  eq : p.ins.length = q.ins.length → p.lns.length = q.lns.length → (∀ k, k < p.ins.length → (p.ins.getD k default).nm = (q.ins.getD k default).nm ∧ (p.ins.getD k default).sd = (q.ins.getD k default).sd) →
    (∀ k, k < p.lns.length → (p.lns.getD k default).nm = (q.lns.getD k default).nm ∧ (p.lns.getD k default).its.map zI = (q.lns.getD k default).its.map zI) → D = true
theorem CmpP.of (p q : Pg) : CmpP p q (decide (zP p = zP q)) := by
  refine ⟨fun h => decide_eq_false fun e => h (zp_parts e).1.symm, fun h => decide_eq_false fun e => h (zp_parts e).2.1.symm, fun k h1 h2 h => decide_eq_false fun e => h ((zp_parts e).2.2.1 k h1).1.symm, fun k h1 h2 h => decide_eq_false fun e => h ((zp_parts e).2.2.1 k h1).2.symm,
    fun k h1 h2 h => decide_eq_false fun e => h ((zp_parts e).2.2.2 k h1).1.symm, fun k h1 h2 h => decide_eq_false fun e => h ((zp_parts e).2.2.2 k h1).2, fun h1 h2 h3 h4 => decide_eq_true ?_⟩
  have e1 : p.ins.map zN = q.ins.map zN := by
    refine List.ext_getElem (by simp [h1]) fun k hk1 hk2 => ?_
    simp only [List.length_map] at hk1 hk2
    have := h3 k hk1
    rw [List.getD_eq_getElem?_getD, List.getD_eq_getElem?_getD, List.getElem?_eq_getElem hk1, List.getElem?_eq_getElem hk2] at this
    simp only [Option.getD_some] at this
    rw [List.getElem_map, List.getElem_map]
    unfold zN
    rw [this.1, this.2]
  have e2 : p.lns.map zL = q.lns.map zL := by
    refine List.ext_getElem (by simp [h2]) fun k hk1 hk2 => ?_
    simp only [List.length_map] at hk1 hk2
    have := h4 k hk1
    rw [List.getD_eq_getElem?_getD, List.getD_eq_getElem?_getD, List.getElem?_eq_getElem hk1, List.getElem?_eq_getElem hk2] at this
    simp only [Option.getD_some] at this
    rw [List.getElem_map, List.getElem_map]
    unfold zL
    rw [this.1, this.2]
  unfold zP
  rw [e1, e2]
end Go.Proofs.YtbapgdhcbfpdoaaGreatDoor
