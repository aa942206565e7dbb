/- Layer 4, put together: ParAl, ParBy. -/
import Derived.Deep.RegionHeld3
import Derived.Test.YthdognmppbckbaaDoorZPg
import Derived.Laws.IdiomStrings
import Derived.Lib.SlBytesConst
import Derived.ArgAppend
import Derived.Deep.AppendLies
/- Contract of the document's Alike: programs that are alike. -/
namespace Go.Proofs.YthdognmppbckbaaDoor
open Go.RowKit
theorem hidTrans {V w w' : World} (h : Hid (Below V.heap.size V w)) (g : Below w.heap.size w w') : Hid (Below V.heap.size V w') := h.out.trans (g.mono h.out.size)
theorem hidDrew {V w : World} (h : Hid (Below V.heap.size V w)) (n : Nat) : Hid (Below V.heap.size V (w.drewN n)) := below_drewN h.out h.out.size
theorem rdItH {V w : World} {A : Option Addr} {l : List It} (h : RdIt V A l) (g : Hid (Below V.heap.size V w)) : RdIt w A l := rdIt_below h g.out
theorem idxLn (b len c k : Nat) (h1 : k < len) (w : World) : (Instr.indexAt 24 (.slice (some ⟨b, 0, none⟩) len c) (.int .i64 (k : Int))).run Tryd.prog w = .ok (.pointer (some ⟨b, k * 3, none⟩)) w := by
  have e := WideShapes.add_plain b 0 (k * 3)
  have h0 : (0 : Int) ≤ (k : Int) ∧ (k : Int) < (len : Int) := by omega
  go_simp
theorem idxIn (b len c k : Nat) (h1 : k < len) (w : World) : (Instr.indexAt 23 (.slice (some ⟨b, 0, none⟩) len c) (.int .i64 (k : Int))).run Tryd.prog w = .ok (.pointer (some ⟨b, k * 3, none⟩)) w := by
  have e := WideShapes.add_plain b 0 (k * 3)
  have h0 : (0 : Int) ≤ (k : Int) ∧ (k : Int) < (len : Int) := by omega
  go_simp
theorem idxSd (b o len c k : Nat) (h1 : k < len) (w : World) : (Instr.indexAt 42 (.slice (some ⟨b, o, none⟩) len c) (.int .i64 (k : Int))).run Tryd.prog w = .ok (.pointer (some ⟨b, o + k * 2, none⟩)) w := by
  have e := WideShapes.add_plain b o (k * 2)
  have h0 : (0 : Int) ≤ (k : Int) ∧ (k : Int) < (len : Int) := by omega
  go_simp
theorem zp_parts {p q : Pg} (h : zP p = zP q) : q.ins.length = p.ins.length ∧ q.lns.length = p.lns.length ∧ (∀ i, i < p.ins.length → (q.ins.getD i default).nm = (p.ins.getD i default).nm ∧ (q.ins.getD i default).sd = (p.ins.getD i default).sd) ∧
    ∀ i, i < p.lns.length → (q.lns.getD i default).nm = (p.lns.getD i default).nm ∧ (p.lns.getD i default).its.map zI = (q.lns.getD i default).its.map zI := by
  have h1 : p.ins.map zN = q.ins.map zN := congrArg Pg.ins h
  have h2 : p.lns.map zL = q.lns.map zL := congrArg Pg.lns h
  have l1 : q.ins.length = p.ins.length := by have := congrArg List.length h1; simpa using this.symm
  have l2 : q.lns.length = p.lns.length := by have := congrArg List.length h2; simpa using this.symm
  refine ⟨l1, l2, fun i hi => ?_, fun i hi => ?_⟩
  · have h3 := congrArg (·[i]?) h1
    simp only [List.getElem?_map, List.getElem?_eq_getElem hi, List.getElem?_eq_getElem (show i < q.ins.length by omega), Option.map_some, Option.some.injEq] at h3
    rw [List.getD_eq_getElem?_getD, List.getD_eq_getElem?_getD, List.getElem?_eq_getElem hi, List.getElem?_eq_getElem (show i < q.ins.length by omega)]
    exact ⟨(congrArg Inp.nm h3).symm, (congrArg Inp.sd h3).symm⟩
  · have h3 := congrArg (·[i]?) h2
    simp only [List.getElem?_map, List.getElem?_eq_getElem hi, List.getElem?_eq_getElem (show i < q.lns.length by omega), Option.map_some, Option.some.injEq] at h3
    rw [List.getD_eq_getElem?_getD, List.getD_eq_getElem?_getD, List.getElem?_eq_getElem hi, List.getElem?_eq_getElem (show i < q.lns.length by omega)]
    exact ⟨(congrArg Ln.nm h3).symm, congrArg Ln.its h3⟩
theorem neqS (a : List UInt8) (n : Int) (w : World) : (binOp .neq 80 (.agg #[.string (bs a), .int .i64 n]) (.agg #[.string (bs a), .int .i64 n])).run Tryd.prog w = .ok (.bool false) w := by
  go_simp
set_option maxRecDepth 100000 in
set_option maxHeartbeats 3200000 in
theorem alike_any (Ai Al Bi Bl : Option Addr) (ci cl di dl n m : Nat) (p q : Pg) (w : World) (hn : p.ins.length = n) (hm : p.lns.length = m) (h : PR w Ai Al p) (g : PR w Bi Bl q) (hz : zP p = zP q) (hb : PgBd p) (hn7 : n ≤ 100) (hm7 : m ≤ 100) (h4 : ∀ x ∈ p.ins, x.sd.length ≤ 4) :
    Calls Tryd.prog 20 #[.agg #[.slice Ai n ci, .slice Al m cl], .agg #[.slice Bi n di, .slice Bl m dl]] w fun e w' => e = .returned (.bool true) ∧ Below w.heap.size w w' := by
  have HZ := Lib.hid (And.intro (And.intro hn hm) (And.intro (zp_parts hz) (And.intro hb h4)))
  obtain ⟨V, hV⟩ : ∃ V, V = (w.alloc (.cells #[.slice Ai n ci, .slice Al m cl] 26)).alloc (.cells #[.slice Bi n di, .slice Bl m dl] 26) := ⟨_, rfl⟩
  have hbV : Below w.heap.size w V := by rw [hV]; exact ((Below.refl _ _).alloc (Nat.le_refl _) _).alloc (by simp) _
  have HV := Lib.hid (And.intro hbV (And.intro (h.below hbV) (g.below hbV)))
  have g1 : V.heap[w.heap.size]? = some (.cells #[.slice Ai n ci, .slice Al m cl] 26 (0, 0)) := by rw [hV]; exact box1 w _ _
  have g2 : V.heap[w.heap.size + 1]? = some (.cells #[.slice Bi n di, .slice Bl m dl] 26 (0, 0)) := by rw [hV]; exact box2 w _ _
  have F := Lib.hid (And.intro (show V.cell? ⟨w.heap.size, 0, none⟩ = some (.slice Ai n ci) by rw [cell_of_row _ _ _ _ _ _ g1]; rfl) (And.intro (show V.cell? ⟨w.heap.size, 1, none⟩ = some (.slice Al m cl) by rw [cell_of_row _ _ _ _ _ _ g1]; rfl)
    (And.intro (show V.cell? ⟨w.heap.size + 1, 0, none⟩ = some (.slice Bi n di) by rw [cell_of_row _ _ _ _ _ _ g2]; rfl) (show V.cell? ⟨w.heap.size + 1, 1, none⟩ = some (.slice Bl m dl) by rw [cell_of_row _ _ _ _ _ _ g2]; rfl))))
  have HS := Lib.hid (And.intro (heap_lt g1) (heap_lt g2))
  have HE := Lib.hid hV
  clear h g hz hb h4 hn hm hbV g1 g2 hV
  go_enter Tryd.func20, Tryd.ntmps20
  go_wp2
  rw [← HE.out]
  go_loopw [5] (fun i wr => ∃ k : Nat, k ≤ n ∧ i = .int .i64 k ∧ Hid (Below V.heap.size V wr)) (fun i _ => n - (intOf i).toNat)
  case atStart => exact ⟨0, by omega, rfl, Below.refl _ _⟩
  case round =>
    obtain ⟨k, hk, rfl, HB⟩ := hrel
    rename World => wo
    have hs1 := HS.out.1
    have hs2 := HS.out.2
    by_cases hlt : k < n
    · obtain ⟨x, hx⟩ : ∃ x, x = p.ins.getD k default := ⟨_, rfl⟩
      obtain ⟨y, hy⟩ : ∃ y, y = q.ins.getD k default := ⟨_, rfl⟩
      have hkp : k < p.ins.length := by rw [HZ.out.1.1]; exact hlt
      have hkq : k < q.ins.length := by rw [HZ.out.2.1.1]; exact hkp
      have hxy := HZ.out.2.1.2.2.1 k hkp
      rw [← hx, ← hy] at hxy
      have hx4 := HZ.out.2.2.2 x (by rw [hx, List.getD_eq_getElem?_getD, List.getElem?_eq_getElem hkp]; exact List.getElem_mem hkp)
      obtain ⟨g1, rfl, hg1, hl1⟩ := HV.out.2.1.ins (by omega)
      obtain ⟨g2, rfl, hg2, hl2⟩ := HV.out.2.2.ins (by omega)
      obtain ⟨a0, _, A, c, a2, _, a3⟩ := hl1 k hkp
      obtain ⟨b0, _, B, d, b2, _, b3⟩ := hl2 k hkq
      rw [← hx] at a0 a2 a3
      rw [← hy, hxy.1] at b0
      rw [← hy, hxy.2] at b2 b3
      have u0 := fun j => (show (wo.drewN j).cell? ⟨w.heap.size, 0, none⟩ = some (.slice (some ⟨g1, 0, none⟩) n ci) from (cell_below HB.out hs1 0).trans F.out.1)
      have v0 := fun j => (show (wo.drewN j).cell? ⟨w.heap.size + 1, 0, none⟩ = some (.slice (some ⟨g2, 0, none⟩) n di) from (cell_below HB.out hs2 0).trans F.out.2.2.1)
      have u1 := fun j => (show (wo.drewN j).cell? ⟨g1, k * 3, none⟩ = some (.string (bs x.nm)) from (cell_below HB.out hg1 _).trans a0)
      have v1 := fun j => (show (wo.drewN j).cell? ⟨g2, k * 3, none⟩ = some (.string (bs x.nm)) from (cell_below HB.out hg2 _).trans b0)
      have u2 := fun j => (show (wo.drewN j).cell? ⟨g1, k * 3 + 2, none⟩ = some (.slice A x.sd.length c) from (cell_below HB.out hg1 _).trans a2)
      have v2 := fun j => (show (wo.drewN j).cell? ⟨g2, k * 3 + 2, none⟩ = some (.slice B x.sd.length d) from (cell_below HB.out hg2 _).trans b2)
      have q1 := idxIn g1 n ci k hlt
      have q2 := idxIn g2 n di k hlt
      have hbb := beq_bytes x.nm
      have u00 := u0 0
      have HG := Lib.hid (And.intro hg1 hg2)
      have HX := Lib.hid (And.intro a2 (And.intro b2 (And.intro a3 b3)))
      clear a0 a2 a3 b0 b2 b3 hl1 hl2 hx hy hxy hkp hkq hg1 hg2
      change wo.cell? ⟨w.heap.size, 0, none⟩ = _ at u00
      go_wp2
      go_quiet (fail)
      clear u0 v0 u1 v1 u2 v2 hbb u00
      go_wp2
      go_loopw [6] (fun i wx => ∃ j : Nat, j ≤ x.sd.length ∧ i = .int .i64 j ∧ Hid (Below V.heap.size V wx)) (fun i _ => x.sd.length - (intOf i).toNat)
      case atStart => exact ⟨0, by omega, rfl, by first | exact HB.out | exact hidDrew HB _⟩
      case round =>
        obtain ⟨j, hj, rfl, HB2⟩ := hrel
        have hg1 := HG.out.1
        have hg2 := HG.out.2
        have u00 : wr.cell? ⟨w.heap.size, 0, none⟩ = some (.slice (some ⟨g1, 0, none⟩) n ci) := (cell_below HB2.out hs1 0).trans F.out.1
        have u20 : wr.cell? ⟨g1, k * 3 + 2, none⟩ = some (.slice A x.sd.length c) := (cell_below HB2.out hg1 _).trans HX.out.1
        by_cases hjl : j < x.sd.length
        · obtain ⟨b3, o3, rfl, ⟨lb3, _⟩, hn3⟩ := HX.out.2.2.1 (by omega)
          obtain ⟨b4, o4, rfl, ⟨lb4, _⟩, hn4⟩ := HX.out.2.2.2 (by omega)
          obtain ⟨sd, hsd⟩ : ∃ sd, sd = x.sd.getD j default := ⟨_, rfl⟩
          obtain ⟨m0, m1⟩ := hn3 j hjl
          obtain ⟨m2, m3⟩ := hn4 j hjl
          rw [← hsd] at m0 m1 m2 m3
          have u0 := fun t => (show (wr.drewN t).cell? ⟨w.heap.size, 0, none⟩ = some (.slice (some ⟨g1, 0, none⟩) n ci) from u00)
          have v0 := fun t => (show (wr.drewN t).cell? ⟨w.heap.size + 1, 0, none⟩ = some (.slice (some ⟨g2, 0, none⟩) n di) from (cell_below HB2.out hs2 0).trans F.out.2.2.1)
          have u2 := fun t => (show (wr.drewN t).cell? ⟨g1, k * 3 + 2, none⟩ = some (.slice (some ⟨b3, o3, none⟩) x.sd.length c) from u20)
          have v2 := fun t => (show (wr.drewN t).cell? ⟨g2, k * 3 + 2, none⟩ = some (.slice (some ⟨b4, o4, none⟩) x.sd.length d) from (cell_below HB2.out hg2 _).trans HX.out.2.1)
          have y0 := fun t => (show (wr.drewN t).cell? ⟨b3, o3 + j * 2, none⟩ = some (.string (bs sd.1)) from (cell_below HB2.out lb3 _).trans m0)
          have y1 := fun t => (show (wr.drewN t).cell? ⟨b3, o3 + j * 2 + 1, none⟩ = some (.int .i64 sd.2) from (cell_below HB2.out lb3 _).trans m1)
          have y2 := fun t => (show (wr.drewN t).cell? ⟨b4, o4 + j * 2, none⟩ = some (.string (bs sd.1)) from (cell_below HB2.out lb4 _).trans m2)
          have y3 := fun t => (show (wr.drewN t).cell? ⟨b4, o4 + j * 2 + 1, none⟩ = some (.int .i64 sd.2) from (cell_below HB2.out lb4 _).trans m3)
          have q3 := idxSd b3 o3 x.sd.length c j hjl
          have q4 := idxSd b4 o4 x.sd.length d j hjl
          have hne := fun W => neqS sd.1 sd.2 W
          clear hn3 hn4 m0 m1 m2 m3 hsd
          go_wp2
          go_quiet (fail)
          clear u0 v0 u2 v2 y0 y1 y2 y3 q1 q2 q3 q4 u00 u20 hne
          go_wp2
          go_roundw
          case rel => exact ⟨j + 1, by omega, by go_num, hidDrew HB2 _⟩
          case measure => simp [intOf]; omega
        · obtain hjx : x.sd.length = j := by omega
          go_wp2
          clear u00 u20 q1 q2
          go_roundw
          case rel => exact ⟨k + 1, by omega, by go_num, HB2⟩
          case measure => simp [intOf]; omega
    · obtain hkn : n = k := by omega
      subst hkn
      have u00 : wo.cell? ⟨w.heap.size, 0, none⟩ = some (.slice Ai n ci) := (cell_below HB.out hs1 0).trans F.out.1
      go_wp2
      clear u00
      clear hlt
      go_loopw [7] (fun i wr => ∃ k : Nat, k ≤ m ∧ i = .int .i64 k ∧ Hid (Below V.heap.size V wr)) (fun i _ => m - (intOf i).toNat)
      case atStart => exact ⟨0, by omega, rfl, HB⟩
      case round =>
        obtain ⟨k, hk2, rfl, HB2⟩ := hrel
        by_cases hlt : k < m
        · obtain ⟨x, hx⟩ : ∃ x, x = p.lns.getD k default := ⟨_, rfl⟩
          obtain ⟨y, hy⟩ : ∃ y, y = q.lns.getD k default := ⟨_, rfl⟩
          have hkp : k < p.lns.length := by rw [HZ.out.1.2]; exact hlt
          have hkq : k < q.lns.length := by rw [HZ.out.2.1.2.1]; exact hkp
          have hxy := HZ.out.2.1.2.2.2 k hkp
          rw [← hx, ← hy] at hxy
          have hxb := HZ.out.2.2.1.its x (by rw [hx, List.getD_eq_getElem?_getD, List.getElem?_eq_getElem hkp]; exact List.getElem_mem hkp)
          obtain ⟨g1, rfl, hg1, hl1⟩ := HV.out.2.1.lns (by omega)
          obtain ⟨g2, rfl, hg2, hl2⟩ := HV.out.2.2.lns (by omega)
          obtain ⟨a0, _, A, c, a2, _, a3⟩ := hl1 k hkp
          obtain ⟨b0, _, B, d, b2, _, b3⟩ := hl2 k hkq
          obtain ⟨z, hz⟩ : ∃ z, z = x.its.length := ⟨_, rfl⟩
          have hz2 : y.its.length = z := by have := congrArg List.length hxy.2; rw [hz]; simpa using this.symm
          rw [← hx] at a0 a2 a3
          rw [← hy, hxy.1] at b0
          rw [← hy] at b2 b3
          rw [← hz] at a2
          rw [hz2] at b2
          have KS : ∀ w' : World, Hid (Below V.heap.size V w') → w'.cell? ⟨w.heap.size, 1, none⟩ = some (.slice (some ⟨g1, 0, none⟩) m cl) ∧ w'.cell? ⟨w.heap.size + 1, 1, none⟩ = some (.slice (some ⟨g2, 0, none⟩) m dl) ∧ w'.cell? ⟨g1, k * 3, none⟩ = some (.string (bs x.nm)) ∧ w'.cell? ⟨g2, k * 3, none⟩ = some (.string (bs x.nm)) ∧ w'.cell? ⟨g1, k * 3 + 2, none⟩ = some (.slice A z c) ∧ w'.cell? ⟨g2, k * 3 + 2, none⟩ = some (.slice B z d) ∧ Hid (Below V.heap.size V w') := fun w' h => ⟨(cell_below h.out hs1 1).trans F.out.2.1, (cell_below h.out hs2 1).trans F.out.2.2.2, (cell_below h.out hg1 _).trans a0, (cell_below h.out hg2 _).trans b0, (cell_below h.out hg1 _).trans a2, (cell_below h.out hg2 _).trans b2, h⟩
          have HIT := Lib.hid (fun W h1 h2 => items_eq A B x.its y.its z c d W hz.symm hz2 h1 h2 hxy.2 (by have := hxb.2.1; omega) (fun t ht => ⟨Nat.le_trans (hxb.2.2 t ht).1 (by decide), (hxb.2.2 t ht).2⟩))
          have HR := Lib.hid (And.intro a3 b3)
          have q1 := idxLn g1 m cl k hlt
          have q2 := idxLn g2 m dl k hlt
          have hbb := beq_bytes x.nm
          have u00 : wr.cell? ⟨w.heap.size, 1, none⟩ = some (.slice (some ⟨g1, 0, none⟩) m cl) := (KS _ HB2).1
          clear a0 a2 a3 b0 b2 b3 hl1 hl2 hx hy hxy hkp hkq hg1 hg2 hxb hz hz2
          go_wp2
          go_region_held3 (fun w' => w'.cell? ⟨w.heap.size, 1, none⟩ = some (.slice (some ⟨g1, 0, none⟩) m cl) ∧ w'.cell? ⟨w.heap.size + 1, 1, none⟩ = some (.slice (some ⟨g2, 0, none⟩) m dl) ∧ w'.cell? ⟨g1, k * 3, none⟩ = some (.string (bs x.nm)) ∧ w'.cell? ⟨g2, k * 3, none⟩ = some (.string (bs x.nm)) ∧ w'.cell? ⟨g1, k * 3 + 2, none⟩ = some (.slice A z c) ∧ w'.cell? ⟨g2, k * 3 + 2, none⟩ = some (.slice B z d) ∧ Hid (Below V.heap.size V w'))
            (first | (exact KS _ (by first | assumption | exact hidDrew (by assumption) _)) | go_keep)
            (first | (go_at_call 23; refine (HIT.out _ (rdItH HR.out.1 (by simp [*])) (rdItH HR.out.2 (by simp [*]))).mono ?_; rintro e w5 ⟨rfl, g5⟩; have k5 : Hid (Below V.heap.size V w5) := hidTrans (by simp [*]) g5; clear g5))
          clear KS q1 q2 hbb u00
          go_wp2
          go_roundw
          case rel => exact ⟨k + 1, by omega, by go_num, k5⟩
          case measure => simp [intOf]; omega
        · obtain hkm : m = k := by omega
          subst hkm
          have u00 : wr.cell? ⟨w.heap.size, 1, none⟩ = some (.slice Al m cl) := (cell_below HB2.out hs1 1).trans F.out.2.1
          go_wp2
          go_ret
          exact ⟨rfl, HV.out.1.trans (HB2.out.mono HV.out.1.size)⟩
end Go.Proofs.YthdognmppbckbaaDoor
/- Rows of bytes of one's own. -/
namespace Go.Proofs.YthdognmppbckbaaDoor
open Go.RowKit
def bcells (l : List UInt8) : List Value := l.map fun b => Value.int .u8 b.toNat
def OwnB (w : World) (base : Nat) (v : Value) (l : List UInt8) : Prop := w.ownsRow base 5 1 v l.length (bcells l)
theorem OwnB.nil (w : World) (base : Nat) : OwnB w base (.slice none 0 0) [] := World.ownsRow_nil w base _ _
theorem OwnB.shape {w : World} {base : Nat} {v : Value} {l : List UInt8} (h : OwnB w base v l) : ∃ A c, v = .slice A l.length c := by
  obtain ⟨_, ⟨rfl, h0⟩ | ⟨g, cap, cur, rfl, _⟩⟩ := h
  · exact ⟨none, 0, by rw [h0]⟩
  · exact ⟨_, _, rfl⟩
theorem OwnB.app {w : World} {base n : Nat} {v : Value} {l r : List UInt8} (h : w.ownsRow base 5 1 v n (bcells l ++ bcells r)) (hn : n = l.length + r.length) : OwnB w base v (l ++ r) := by
  subst hn
  unfold OwnB
  rw [List.length_append]
  have e : bcells (l ++ r) = bcells l ++ bcells r := by unfold bcells; rw [List.map_append]
  rw [e]; exact h
/-- The text of a row of bytes. -/
theorem OwnB.text {w : World} {base : Nat} {A : Option Addr} {c : Nat} {l : List UInt8} (h : OwnB w base (.slice A l.length c) l) : (convert 45 9 (.slice A l.length c)).run Tryd.prog w = .ok (.string (bs l)) w := by
  cases A with
  | none =>
    have h0 : l = [] := by
      obtain ⟨_, ⟨e, h0⟩ | ⟨g, cap, cur, e, _⟩⟩ := h
      · exact List.length_eq_zero_iff.1 h0
      · injection e with e1; cases e1
    subst h0
    rw [run_convert_bytes_nil w _ _ Tryd.underlying45 Tryd.underlying5 _ _ _ Tryd.underlying9]
    rfl
  | some a =>
    refine run_convert_bytes_back w _ _ 5 a c l Tryd.underlying45 Tryd.underlying5 Tryd.underlying9 (fun j hj => ?_)
    have hb : ∃ g, a = ⟨g, 0, none⟩ := by
      obtain ⟨_, ⟨e, _⟩ | ⟨g, cap, cur, e, _⟩⟩ := h
      · injection e with e1; cases e1
      · injection e with e1; injection e1 with e1; exact ⟨g, e1⟩
    obtain ⟨g, rfl⟩ := hb
    refine World.ownsRow.cells h (g := g) rfl j _ ?_
    unfold bcells
    rw [List.getElem?_map, List.getElem?_eq_getElem hj]; rfl
theorem OwnB.keep {w w' : World} {base : Nat} {v : Value} {l : List UInt8} (h : OwnB w base v l) (hb : Below w.heap.size w w') : OwnB w' base v l := row_keep h (fun k _ hk => hb.block k hk) (Nat.le_refl _)
/-- A row of bytes of one's own, or a marked one that is full. -/
def RowB (w : World) (base g n cap : Nat) (bl : List UInt8) : Prop :=
  n = bl.length ∧ (OwnB w base (.slice (some ⟨g, 0, none⟩) bl.length cap) bl ∨ (n = cap ∧ base ≤ g ∧ g < w.heap.size ∧ ∀ j, j < n → w.cell? ⟨g, j, none⟩ = some (.int .u8 (bl.getD j 0).toNat)))
theorem RowB.keep {w w' : World} {base g n cap : Nat} {bl : List UInt8} (h : RowB w base g n cap bl) (hb : Below w.heap.size w w') : RowB w' base g n cap bl := by
  obtain ⟨h0, h1 | ⟨h1, h2, h3, h4⟩⟩ := h
  · exact ⟨h0, .inl (h1.keep hb)⟩
  · exact ⟨h0, .inr ⟨h1, h2, Nat.lt_of_lt_of_le h3 hb.size, fun j hj => (cell_below hb h3 j).trans (h4 j hj)⟩⟩
theorem RowB.text {w : World} {base g n cap : Nat} {bl : List UInt8} (h : RowB w base g n cap bl) : (convert 45 9 (.slice (some ⟨g, 0, none⟩) n cap)).run Tryd.prog w = .ok (.string (bs bl)) w := by
  obtain ⟨rfl, h1 | ⟨_, _, _, h4⟩⟩ := h
  · exact h1.text
  · refine run_convert_bytes_back w _ _ 5 ⟨g, 0, none⟩ cap bl Tryd.underlying45 Tryd.underlying5 Tryd.underlying9 (fun j hj => ?_)
    rw [WideShapes.add_plain, Nat.zero_add, h4 j hj, List.getD_eq_getElem?_getD, List.getElem?_eq_getElem hj]; rfl
end Go.Proofs.YthdognmppbckbaaDoor
