/- Contract of the document's Alike: programs that are alike. -/
import Derived.Deep.RegionHeld3
import Derived.Test.YtbapgdhcbfpdoaaGreatDoorZPg
namespace Go.Proofs.YtbapgdhcbfpdoaaGreatDoor
open Go.RowKit
theorem hidTrans {V w w' : World} (h : Hid (Below V.heap.size V w)) (g : Below w.heap.size w w') : Hid (Below V.heap.size V w') := h.out.trans (g.mono h.out.size)
theorem hidDrew {V w : World} (h : Hid (Below V.heap.size V w)) (n : Nat) : Hid (Below V.heap.size V (w.drewN n)) := below_drewN h.out h.out.size
theorem rdItH {V w : World} {A : Option Addr} {l : List It} (h : RdIt V A l) (g : Hid (Below V.heap.size V w)) : RdIt w A l := rdIt_below h g.out
theorem idxLn (b len c k : Nat) (h1 : k < len) (w : World) : (Instr.indexAt 23 (.slice (some ⟨b, 0, none⟩) len c) (.int .i64 (k : Int))).run Tryz.prog w = .ok (.pointer (some ⟨b, k * 3, none⟩)) w := by
  have e := WideShapes.add_plain b 0 (k * 3)
  have h0 : (0 : Int) ≤ (k : Int) ∧ (k : Int) < (len : Int) := by omega
  go_simp
theorem idxIn (b len c k : Nat) (h1 : k < len) (w : World) : (Instr.indexAt 22 (.slice (some ⟨b, 0, none⟩) len c) (.int .i64 (k : Int))).run Tryz.prog w = .ok (.pointer (some ⟨b, k * 3, none⟩)) w := by
  have e := WideShapes.add_plain b 0 (k * 3)
  have h0 : (0 : Int) ≤ (k : Int) ∧ (k : Int) < (len : Int) := by omega
  go_simp
theorem idxSd (b o len c k : Nat) (h1 : k < len) (w : World) : (Instr.indexAt 46 (.slice (some ⟨b, o, none⟩) len c) (.int .i64 (k : Int))).run Tryz.prog w = .ok (.pointer (some ⟨b, o + k * 2, none⟩)) w := by
  have e := WideShapes.add_plain b o (k * 2)
  have h0 : (0 : Int) ≤ (k : Int) ∧ (k : Int) < (len : Int) := by omega
  go_simp
theorem zp_parts {p q : Pg} (h : zP p = zP q) : q.ins.length = p.ins.length ∧ q.lns.length = p.lns.length ∧ (∀ i, i < p.ins.length → (q.ins.getD i default).nm = (p.ins.getD i default).nm ∧ (q.ins.getD i default).sd = (p.ins.getD i default).sd) ∧
    ∀ i, i < p.lns.length → (q.lns.getD i default).nm = (p.lns.getD i default).nm ∧ (p.lns.getD i default).its.map zI = (q.lns.getD i default).its.map zI := by
  have h1 : p.ins.map zN = q.ins.map zN := congrArg Pg.ins h
  have h2 : p.lns.map zL = q.lns.map zL := congrArg Pg.lns h
  have l1 : q.ins.length = p.ins.length := by have := congrArg List.length h1; simpa using this.symm
  have l2 : q.lns.length = p.lns.length := by have := congrArg List.length h2; simpa using this.symm
  refine ⟨l1, l2, fun i hi => ?_, fun i hi => ?_⟩
  · have h3 := congrArg (·[i]?) h1
    simp only [List.getElem?_map, List.getElem?_eq_getElem hi, List.getElem?_eq_getElem (show i < q.ins.length by omega), Option.map_some, Option.some.injEq] at h3
    rw [List.getD_eq_getElem?_getD, List.getD_eq_getElem?_getD, List.getElem?_eq_getElem hi, List.getElem?_eq_getElem (show i < q.ins.length by omega)]
    exact ⟨(congrArg Inp.nm h3).symm, (congrArg Inp.sd h3).symm⟩
  · have h3 := congrArg (·[i]?) h2
    simp only [List.getElem?_map, List.getElem?_eq_getElem hi, List.getElem?_eq_getElem (show i < q.lns.length by omega), Option.map_some, Option.some.injEq] at h3
    rw [List.getD_eq_getElem?_getD, List.getD_eq_getElem?_getD, List.getElem?_eq_getElem hi, List.getElem?_eq_getElem (show i < q.lns.length by omega)]
    exact ⟨(congrArg Ln.nm h3).symm, congrArg Ln.its h3⟩
theorem neqS (a : List UInt8) (n : Int) (w : World) : (binOp .neq 50 (.agg #[.string (bs a), .int .i64 n]) (.agg #[.string (bs a), .int .i64 n])).run Tryz.prog w = .ok (.bool false) w := by
  go_simp
/-- A program in a block. -/
def PrAt (w : World) (b : Nat) (Ai : Option Addr) (n ci : Nat) (Al : Option Addr) (m cl : Nat) : Prop := w.cell? ⟨b, 0, none⟩ = some (.slice Ai n ci) ∧ w.cell? ⟨b, 1, none⟩ = some (.slice Al m cl)
set_option maxRecDepth 100000 in
set_option maxHeartbeats 3200000 in
theorem alike_any (Ai Al Bi Bl : Option Addr) (ci cl di dl n m : Nat) (p q : Pg) (w : World) (hn : p.ins.length = n) (hm : p.lns.length = m) (h : PR w Ai Al p) (g : PR w Bi Bl q) (hz : zP p = zP q) (hb : PgBd p) (hn7 : n ≤ 100) (hm7 : m ≤ 100) (h4 : ∀ x ∈ p.ins, x.sd.length ≤ 4) :
    Calls Tryz.prog 12 #[.agg #[.slice Ai n ci, .slice Al m cl], .agg #[.slice Bi n di, .slice Bl m dl]] w fun e w' => e = .returned (.bool true) ∧ Below w.heap.size w w' := by
  have HZ := Lib.hid (And.intro (And.intro hn hm) (And.intro (zp_parts hz) (And.intro hb h4)))
  obtain ⟨V, hV⟩ : ∃ V, V = (w.alloc (.cells #[.slice Ai n ci, .slice Al m cl] 25)).alloc (.cells #[.slice Bi n di, .slice Bl m dl] 25) := ⟨_, rfl⟩
  have hbV : Below w.heap.size w V := by rw [hV]; exact ((Below.refl _ _).alloc (Nat.le_refl _) _).alloc (by simp) _
  have HV := Lib.hid (And.intro hbV (And.intro (h.below hbV) (g.below hbV)))
  have g1 : V.heap[w.heap.size]? = some (.cells #[.slice Ai n ci, .slice Al m cl] 25 (0, 0)) := by rw [hV]; exact box1 w _ _
  have g2 : V.heap[w.heap.size + 1]? = some (.cells #[.slice Bi n di, .slice Bl m dl] 25 (0, 0)) := by rw [hV]; exact box2 w _ _
  have F := Lib.hid (And.intro (show V.cell? ⟨w.heap.size, 0, none⟩ = some (.slice Ai n ci) by rw [cell_of_row _ _ _ _ _ _ g1]; rfl) (And.intro (show V.cell? ⟨w.heap.size, 1, none⟩ = some (.slice Al m cl) by rw [cell_of_row _ _ _ _ _ _ g1]; rfl)
    (And.intro (show V.cell? ⟨w.heap.size + 1, 0, none⟩ = some (.slice Bi n di) by rw [cell_of_row _ _ _ _ _ _ g2]; rfl) (show V.cell? ⟨w.heap.size + 1, 1, none⟩ = some (.slice Bl m dl) by rw [cell_of_row _ _ _ _ _ _ g2]; rfl))))
  have HS := Lib.hid (And.intro (heap_lt g1) (heap_lt g2))
  have HE := Lib.hid hV
  clear h g hz hb h4 hn hm hbV g1 g2 hV
  go_enter Tryz.func12, Tryz.ntmps12
  go_wp2
  rw [← HE.out]
  go_loopw [5] (fun i wr => ∃ k : Nat, k ≤ n ∧ i = .int .i64 k ∧ Hid (Below V.heap.size V wr)) (fun i _ => n - (intOf i).toNat)
  case atStart => exact ⟨0, by omega, rfl, Below.refl _ _⟩
  case round =>
    obtain ⟨k, hk, rfl, HB⟩ := hrel
    rename World => wo
    have hs1 := HS.out.1
    have hs2 := HS.out.2
    by_cases hlt : k < n
    · obtain ⟨x, hx⟩ : ∃ x, x = p.ins.getD k default := ⟨_, rfl⟩
      obtain ⟨y, hy⟩ : ∃ y, y = q.ins.getD k default := ⟨_, rfl⟩
      have hkp : k < p.ins.length := by rw [HZ.out.1.1]; exact hlt
      have hkq : k < q.ins.length := by rw [HZ.out.2.1.1]; exact hkp
      have hxy := HZ.out.2.1.2.2.1 k hkp
      rw [← hx, ← hy] at hxy
      have hx4 := HZ.out.2.2.2 x (by rw [hx, List.getD_eq_getElem?_getD, List.getElem?_eq_getElem hkp]; exact List.getElem_mem hkp)
      obtain ⟨g1, rfl, hg1, hl1⟩ := HV.out.2.1.ins (by omega)
      obtain ⟨g2, rfl, hg2, hl2⟩ := HV.out.2.2.ins (by omega)
      obtain ⟨a0, _, A, c, a2, _, a3⟩ := hl1 k hkp
      obtain ⟨b0, _, B, d, b2, _, b3⟩ := hl2 k hkq
      rw [← hx] at a0 a2 a3
      rw [← hy, hxy.1] at b0
      rw [← hy, hxy.2] at b2 b3
      have u0 := fun j => (show (wo.drewN j).cell? ⟨w.heap.size, 0, none⟩ = some (.slice (some ⟨g1, 0, none⟩) n ci) from (cell_below HB.out hs1 0).trans F.out.1)
      have v0 := fun j => (show (wo.drewN j).cell? ⟨w.heap.size + 1, 0, none⟩ = some (.slice (some ⟨g2, 0, none⟩) n di) from (cell_below HB.out hs2 0).trans F.out.2.2.1)
      have u1 := fun j => (show (wo.drewN j).cell? ⟨g1, k * 3, none⟩ = some (.string (bs x.nm)) from (cell_below HB.out hg1 _).trans a0)
      have v1 := fun j => (show (wo.drewN j).cell? ⟨g2, k * 3, none⟩ = some (.string (bs x.nm)) from (cell_below HB.out hg2 _).trans b0)
      have u2 := fun j => (show (wo.drewN j).cell? ⟨g1, k * 3 + 2, none⟩ = some (.slice A x.sd.length c) from (cell_below HB.out hg1 _).trans a2)
      have v2 := fun j => (show (wo.drewN j).cell? ⟨g2, k * 3 + 2, none⟩ = some (.slice B x.sd.length d) from (cell_below HB.out hg2 _).trans b2)
      have q1 := idxIn g1 n ci k hlt
      have q2 := idxIn g2 n di k hlt
      have hbb := beq_bytes x.nm
      have u00 := u0 0
      have HG := Lib.hid (And.intro hg1 hg2)
      have HX := Lib.hid (And.intro a2 (And.intro b2 (And.intro a3 b3)))
      clear a0 a2 a3 b0 b2 b3 hl1 hl2 hx hy hxy hkp hkq hg1 hg2
      change wo.cell? ⟨w.heap.size, 0, none⟩ = _ at u00
      go_wp2
      go_quiet (fail)
      clear u0 v0 u1 v1 u2 v2 hbb u00
      go_wp2
      go_loopw [6] (fun i wx => ∃ j : Nat, j ≤ x.sd.length ∧ i = .int .i64 j ∧ Hid (Below V.heap.size V wx)) (fun i _ => x.sd.length - (intOf i).toNat)
      case atStart => exact ⟨0, by omega, rfl, by first | exact HB.out | exact hidDrew HB _⟩
      case round =>
        obtain ⟨j, hj, rfl, HB2⟩ := hrel
        have hg1 := HG.out.1
        have hg2 := HG.out.2
        have u00 : wr.cell? ⟨w.heap.size, 0, none⟩ = some (.slice (some ⟨g1, 0, none⟩) n ci) := (cell_below HB2.out hs1 0).trans F.out.1
        have u20 : wr.cell? ⟨g1, k * 3 + 2, none⟩ = some (.slice A x.sd.length c) := (cell_below HB2.out hg1 _).trans HX.out.1
        by_cases hjl : j < x.sd.length
        · obtain ⟨b3, o3, rfl, ⟨lb3, _⟩, hn3⟩ := HX.out.2.2.1 (by omega)
          obtain ⟨b4, o4, rfl, ⟨lb4, _⟩, hn4⟩ := HX.out.2.2.2 (by omega)
          obtain ⟨sd, hsd⟩ : ∃ sd, sd = x.sd.getD j default := ⟨_, rfl⟩
          obtain ⟨m0, m1⟩ := hn3 j hjl
          obtain ⟨m2, m3⟩ := hn4 j hjl
          rw [← hsd] at m0 m1 m2 m3
          have u0 := fun t => (show (wr.drewN t).cell? ⟨w.heap.size, 0, none⟩ = some (.slice (some ⟨g1, 0, none⟩) n ci) from u00)
          have v0 := fun t => (show (wr.drewN t).cell? ⟨w.heap.size + 1, 0, none⟩ = some (.slice (some ⟨g2, 0, none⟩) n di) from (cell_below HB2.out hs2 0).trans F.out.2.2.1)
          have u2 := fun t => (show (wr.drewN t).cell? ⟨g1, k * 3 + 2, none⟩ = some (.slice (some ⟨b3, o3, none⟩) x.sd.length c) from u20)
          have v2 := fun t => (show (wr.drewN t).cell? ⟨g2, k * 3 + 2, none⟩ = some (.slice (some ⟨b4, o4, none⟩) x.sd.length d) from (cell_below HB2.out hg2 _).trans HX.out.2.1)
          have y0 := fun t => (show (wr.drewN t).cell? ⟨b3, o3 + j * 2, none⟩ = some (.string (bs sd.1)) from (cell_below HB2.out lb3 _).trans m0)
          have y1 := fun t => (show (wr.drewN t).cell? ⟨b3, o3 + j * 2 + 1, none⟩ = some (.int .i64 sd.2) from (cell_below HB2.out lb3 _).trans m1)
          have y2 := fun t => (show (wr.drewN t).cell? ⟨b4, o4 + j * 2, none⟩ = some (.string (bs sd.1)) from (cell_below HB2.out lb4 _).trans m2)
          have y3 := fun t => (show (wr.drewN t).cell? ⟨b4, o4 + j * 2 + 1, none⟩ = some (.int .i64 sd.2) from (cell_below HB2.out lb4 _).trans m3)
          have q3 := idxSd b3 o3 x.sd.length c j hjl
          have q4 := idxSd b4 o4 x.sd.length d j hjl
          have hne := fun W => neqS sd.1 sd.2 W
          clear hn3 hn4 m0 m1 m2 m3 hsd
          go_wp2
          go_quiet (fail)
          clear u0 v0 u2 v2 y0 y1 y2 y3 q1 q2 q3 q4 u00 u20 hne
          go_wp2
          go_roundw
          case rel => exact ⟨j + 1, by omega, by go_num, hidDrew HB2 _⟩
          case measure => simp [intOf]; omega
        · obtain hjx : x.sd.length = j := by omega
          go_wp2
          clear u00 u20 q1 q2
          go_roundw
          case rel => exact ⟨k + 1, by omega, by go_num, HB2⟩
          case measure => simp [intOf]; omega
    · obtain hkn : n = k := by omega
      subst hkn
      have u00 : wo.cell? ⟨w.heap.size, 0, none⟩ = some (.slice Ai n ci) := (cell_below HB.out hs1 0).trans F.out.1
      go_wp2
      clear u00
      clear hlt
      go_loopw [7] (fun i wr => ∃ k : Nat, k ≤ m ∧ i = .int .i64 k ∧ Hid (Below V.heap.size V wr)) (fun i _ => m - (intOf i).toNat)
      case atStart => exact ⟨0, by omega, rfl, HB⟩
      case round =>
        obtain ⟨k, hk2, rfl, HB2⟩ := hrel
        by_cases hlt : k < m
        · obtain ⟨x, hx⟩ : ∃ x, x = p.lns.getD k default := ⟨_, rfl⟩
          obtain ⟨y, hy⟩ : ∃ y, y = q.lns.getD k default := ⟨_, rfl⟩
          have hkp : k < p.lns.length := by rw [HZ.out.1.2]; exact hlt
          have hkq : k < q.lns.length := by rw [HZ.out.2.1.2.1]; exact hkp
          have hxy := HZ.out.2.1.2.2.2 k hkp
          rw [← hx, ← hy] at hxy
          have hxb := HZ.out.2.2.1.its x (by rw [hx, List.getD_eq_getElem?_getD, List.getElem?_eq_getElem hkp]; exact List.getElem_mem hkp)
          obtain ⟨g1, rfl, hg1, hl1⟩ := HV.out.2.1.lns (by omega)
          obtain ⟨g2, rfl, hg2, hl2⟩ := HV.out.2.2.lns (by omega)
          obtain ⟨a0, _, A, c, a2, _, a3⟩ := hl1 k hkp
          obtain ⟨b0, _, B, d, b2, _, b3⟩ := hl2 k hkq
          obtain ⟨z, hz⟩ : ∃ z, z = x.its.length := ⟨_, rfl⟩
          have hz2 : y.its.length = z := by have := congrArg List.length hxy.2; rw [hz]; simpa using this.symm
          rw [← hx] at a0 a2 a3
          rw [← hy, hxy.1] at b0
          rw [← hy] at b2 b3
          rw [← hz] at a2
          rw [hz2] at b2
          have KS : ∀ w' : World, Hid (Below V.heap.size V w') → w'.cell? ⟨w.heap.size, 1, none⟩ = some (.slice (some ⟨g1, 0, none⟩) m cl) ∧ w'.cell? ⟨w.heap.size + 1, 1, none⟩ = some (.slice (some ⟨g2, 0, none⟩) m dl) ∧ w'.cell? ⟨g1, k * 3, none⟩ = some (.string (bs x.nm)) ∧ w'.cell? ⟨g2, k * 3, none⟩ = some (.string (bs x.nm)) ∧ w'.cell? ⟨g1, k * 3 + 2, none⟩ = some (.slice A z c) ∧ w'.cell? ⟨g2, k * 3 + 2, none⟩ = some (.slice B z d) ∧ Hid (Below V.heap.size V w') := fun w' h => ⟨(cell_below h.out hs1 1).trans F.out.2.1, (cell_below h.out hs2 1).trans F.out.2.2.2, (cell_below h.out hg1 _).trans a0, (cell_below h.out hg2 _).trans b0, (cell_below h.out hg1 _).trans a2, (cell_below h.out hg2 _).trans b2, h⟩
          have HIT := Lib.hid (fun W h1 h2 => items_eq A B x.its y.its z c d W hz.symm hz2 h1 h2 hxy.2 (by have := hxb.2.1; omega) (fun t ht => ⟨Nat.le_trans (hxb.2.2 t ht).1 (by decide), (hxb.2.2 t ht).2⟩))
          have HR := Lib.hid (And.intro a3 b3)
          have q1 := idxLn g1 m cl k hlt
          have q2 := idxLn g2 m dl k hlt
          have hbb := beq_bytes x.nm
          have u00 : wr.cell? ⟨w.heap.size, 1, none⟩ = some (.slice (some ⟨g1, 0, none⟩) m cl) := (KS _ HB2).1
          clear a0 a2 a3 b0 b2 b3 hl1 hl2 hx hy hxy hkp hkq hg1 hg2 hxb hz hz2
          go_wp2
          go_region_held3 (fun w' => w'.cell? ⟨w.heap.size, 1, none⟩ = some (.slice (some ⟨g1, 0, none⟩) m cl) ∧ w'.cell? ⟨w.heap.size + 1, 1, none⟩ = some (.slice (some ⟨g2, 0, none⟩) m dl) ∧ w'.cell? ⟨g1, k * 3, none⟩ = some (.string (bs x.nm)) ∧ w'.cell? ⟨g2, k * 3, none⟩ = some (.string (bs x.nm)) ∧ w'.cell? ⟨g1, k * 3 + 2, none⟩ = some (.slice A z c) ∧ w'.cell? ⟨g2, k * 3 + 2, none⟩ = some (.slice B z d) ∧ Hid (Below V.heap.size V w'))
            (first | (exact KS _ (by first | assumption | exact hidDrew (by assumption) _)) | go_keep)
            (first | (go_at_call 16; refine (HIT.out _ (rdItH HR.out.1 (by simp [*])) (rdItH HR.out.2 (by simp [*]))).mono ?_; rintro e w5 ⟨rfl, g5⟩; have k5 : Hid (Below V.heap.size V w5) := hidTrans (by simp [*]) g5; clear g5))
          clear KS q1 q2 hbb u00
          go_wp2
          go_roundw
          case rel => exact ⟨k + 1, by omega, by go_num, k5⟩
          case measure => simp [intOf]; omega
        · obtain hkm : m = k := by omega
          subst hkm
          have u00 : wr.cell? ⟨w.heap.size, 1, none⟩ = some (.slice Al m cl) := (cell_below HB2.out hs1 1).trans F.out.2.1
          go_wp2
          go_ret
          exact ⟨rfl, HV.out.1.trans (HB2.out.mono HV.out.1.size)⟩
end Go.Proofs.YtbapgdhcbfpdoaaGreatDoor
