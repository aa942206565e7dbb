/- Contract of the document's Alike: programs that are alike. -/
import Derived.Deep.RegionHeld3
import Derived.Test.YtbapgdhcbfpdoaaGreatDoorYPg
namespace Go.Proofs.YtbapgdhcbfpdoaaGreatDoor
open Go.RowKit
theorem zp_parts {p q : Pg} (h : zP p = zP q) : q.ins.length = p.ins.length ∧ q.lns.length = p.lns.length ∧ (∀ i, i < p.ins.length → (q.ins.getD i default).nm = (p.ins.getD i default).nm ∧ (q.ins.getD i default).sd = (p.ins.getD i default).sd) ∧
    ∀ i, i < p.lns.length → (q.lns.getD i default).nm = (p.lns.getD i default).nm ∧ (p.lns.getD i default).its.map zI = (q.lns.getD i default).its.map zI := by
  have h1 : p.ins.map zN = q.ins.map zN := congrArg Pg.ins h
  have h2 : p.lns.map zL = q.lns.map zL := congrArg Pg.lns h
  have l1 : q.ins.length = p.ins.length := by have := congrArg List.length h1; simpa using this.symm
  have l2 : q.lns.length = p.lns.length := by have := congrArg List.length h2; simpa using this.symm
  refine ⟨l1, l2, fun i hi => ?_, fun i hi => ?_⟩
  · have h3 := congrArg (·[i]?) h1
    simp only [List.getElem?_map, List.getElem?_eq_getElem hi, List.getElem?_eq_getElem (show i < q.ins.length by omega), Option.map_some, Option.some.injEq] at h3
    rw [List.getD_eq_getElem?_getD, List.getD_eq_getElem?_getD, List.getElem?_eq_getElem hi, List.getElem?_eq_getElem (show i < q.ins.length by omega)]
    exact ⟨(congrArg Inp.nm h3).symm, (congrArg Inp.sd h3).symm⟩
  · have h3 := congrArg (·[i]?) h2
    simp only [List.getElem?_map, List.getElem?_eq_getElem hi, List.getElem?_eq_getElem (show i < q.lns.length by omega), Option.map_some, Option.some.injEq] at h3
    rw [List.getD_eq_getElem?_getD, List.getD_eq_getElem?_getD, List.getElem?_eq_getElem hi, List.getElem?_eq_getElem (show i < q.lns.length by omega)]
    exact ⟨(congrArg Ln.nm h3).symm, congrArg Ln.its h3⟩
end Go.Proofs.YtbapgdhcbfpdoaaGreatDoor
