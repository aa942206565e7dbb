/- Contract of the document's Alike, in both directions, for programs that are read of memory of any kind. -/
import Derived.Test.YtbapgdhcbfpdoaaGreatDoorZSf
namespace Go.Proofs.YtbapgdhcbfpdoaaGreatDoor
open Go.RowKit
set_option linter.unusedVariables false
theorem idxLnO (b o len c k : Nat) (h1 : k < len) (w : World) : (Instr.indexAt 23 (.slice (some ⟨b, o, none⟩) len c) (.int .i64 (k : Int))).run Tryz.prog w = .ok (.pointer (some ⟨b, o + k * 3, none⟩)) w := by
  have e := WideShapes.add_plain b o (k * 3)
  have h0 : (0 : Int) ≤ (k : Int) ∧ (k : Int) < (len : Int) := by omega
  go_simp
theorem idxInO (b o len c k : Nat) (h1 : k < len) (w : World) : (Instr.indexAt 22 (.slice (some ⟨b, o, none⟩) len c) (.int .i64 (k : Int))).run Tryz.prog w = .ok (.pointer (some ⟨b, o + k * 3, none⟩)) w := by
  have e := WideShapes.add_plain b o (k * 3)
  have h0 : (0 : Int) ≤ (k : Int) ∧ (k : Int) < (len : Int) := by omega
  go_simp
theorem neqU (a b : List UInt8 × Int) (h : a ≠ b) (w : World) : (binOp .neq 50 (.agg #[.string (bs a.1), .int .i64 a.2]) (.agg #[.string (bs b.1), .int .i64 b.2])).run Tryz.prog w = .ok (.bool true) w := by
  by_cases h1 : a.1 = b.1
  · have h2 : a.2 ≠ b.2 := fun e => h (Prod.ext h1 e)
    have f1 : (a.2 == b.2) = false := by rw [beq_eq_false_iff_ne]; exact h2
    have f3 : decide (a.2 = b.2) = false := decide_eq_false h2
    rw [h1]
    go_simp
  · have f1 := nbytes h1
    go_simp
/-- What the comparison of two programs gives. -/
structure CmpP (p q : Pg) (D : Bool) : Prop where
  nin : p.ins.length ≠ q.ins.length → D = false
  nln : p.lns.length ≠ q.lns.length → D = false
  inn : ∀ k, k < p.ins.length → k < q.ins.length → (p.ins.getD k default).nm ≠ (q.ins.getD k default).nm → D = false
  ins : ∀ k, k < p.ins.length → k < q.ins.length → (p.ins.getD k default).sd ≠ (q.ins.getD k default).sd → D = false
  lnn : ∀ k, k < p.lns.length → k < q.lns.length → (p.lns.getD k default).nm ≠ (q.lns.getD k default).nm → D = false
  lni : ∀ k, k < p.lns.length → k < q.lns.length → (p.lns.getD k default).its.map zI ≠ (q.lns.getD k default).its.map zI → D = false
  eq : p.ins.length = q.ins.length → p.lns.length = q.lns.length → (∀ k, k < p.ins.length → (p.ins.getD k default).nm = (q.ins.getD k default).nm ∧ (p.ins.getD k default).sd = (q.ins.getD k default).sd) →
    (∀ k, k < p.lns.length → (p.lns.getD k default).nm = (q.lns.getD k default).nm ∧ (p.lns.getD k default).its.map zI = (q.lns.getD k default).its.map zI) → D = true
theorem CmpP.of (p q : Pg) : CmpP p q (decide (zP p = zP q)) := by
  refine ⟨fun h => decide_eq_false fun e => h (zp_parts e).1.symm, fun h => decide_eq_false fun e => h (zp_parts e).2.1.symm, fun k h1 h2 h => decide_eq_false fun e => h ((zp_parts e).2.2.1 k h1).1.symm, fun k h1 h2 h => decide_eq_false fun e => h ((zp_parts e).2.2.1 k h1).2.symm,
    fun k h1 h2 h => decide_eq_false fun e => h ((zp_parts e).2.2.2 k h1).1.symm, fun k h1 h2 h => decide_eq_false fun e => h ((zp_parts e).2.2.2 k h1).2, fun h1 h2 h3 h4 => decide_eq_true ?_⟩
  have e1 : p.ins.map zN = q.ins.map zN := by
    refine List.ext_getElem (by simp [h1]) fun k hk1 hk2 => ?_
    simp only [List.length_map] at hk1 hk2
    have := h3 k hk1
    rw [List.getD_eq_getElem?_getD, List.getD_eq_getElem?_getD, List.getElem?_eq_getElem hk1, List.getElem?_eq_getElem hk2] at this
    simp only [Option.getD_some] at this
    rw [List.getElem_map, List.getElem_map]
    unfold zN
    rw [this.1, this.2]
  have e2 : p.lns.map zL = q.lns.map zL := by
    refine List.ext_getElem (by simp [h2]) fun k hk1 hk2 => ?_
    simp only [List.length_map] at hk1 hk2
    have := h4 k hk1
    rw [List.getD_eq_getElem?_getD, List.getD_eq_getElem?_getD, List.getElem?_eq_getElem hk1, List.getElem?_eq_getElem hk2] at this
    simp only [Option.getD_some] at this
    rw [List.getElem_map, List.getElem_map]
    unfold zL
    rw [this.1, this.2]
  unfold zP
  rw [e1, e2]
theorem sd_ne {a b : List (List UInt8 × Int)} {j : Nat} (h : a.getD j default ≠ b.getD j default) : a ≠ b := fun e => h (by rw [e])
theorem sd_eq {a b : List (List UInt8 × Int)} (h1 : a.length = b.length) (h : ∀ j, j < a.length → a.getD j default = b.getD j default) : a = b := by
  refine List.ext_getElem h1 fun k hk1 hk2 => ?_
  have := h k hk1
  rw [List.getD_eq_getElem?_getD, List.getD_eq_getElem?_getD, List.getElem?_eq_getElem hk1, List.getElem?_eq_getElem hk2] at this
  simpa using this
theorem mem_getD {α : Type} [Inhabited α] {l : List α} {k : Nat} (h : k < l.length) : l.getD k default ∈ l := by
  rw [List.getD_eq_getElem?_getD, List.getElem?_eq_getElem h]; exact List.getElem_mem h
theorem itsUH {V w : World} {A : Option Addr} {l : List It} (h : ItsU V A l) (g : Hid (Below V.heap.size V w)) : ItsU w A l := h.below g.out
theorem uncmp {l m : List It} {D : Bool} (h : decide (l.map zI = m.map zI) = D) : Cmp l m D := by rw [← h]; exact Cmp.of l m
set_option maxRecDepth 100000 in
set_option maxHeartbeats 3200000 in
theorem alike_two (Ai Al Bi Bl : Option Addr) (ci cl di dl n m n2 m2 : Nat) (p q : Pg) (D : Bool) (w : World) (hD : CmpP p q D) (hn : p.ins.length = n) (hm : p.lns.length = m) (kn : q.ins.length = n2) (km : q.lns.length = m2) (h : PU w Ai Al p) (g : PU w Bi Bl q) (hb : PgB p) (gb : PgB q) :
    Calls Tryz.prog 12 #[.agg #[.slice Ai n ci, .slice Al m cl], .agg #[.slice Bi n2 di, .slice Bl m2 dl]] w fun e w' => e = .returned (.bool D) ∧ Below w.heap.size w w' := by
  have HZ := Lib.hid (And.intro (And.intro hn (And.intro hm (And.intro kn km))) (And.intro hD (And.intro hb gb)))
  obtain ⟨V, hV⟩ : ∃ V, V = (w.alloc (.cells #[.slice Ai n ci, .slice Al m cl] 25)).alloc (.cells #[.slice Bi n2 di, .slice Bl m2 dl] 25) := ⟨_, rfl⟩
  have hbV : Below w.heap.size w V := by rw [hV]; exact ((Below.refl _ _).alloc (Nat.le_refl _) _).alloc (by simp) _
  have HV := Lib.hid (And.intro hbV (And.intro (h.below hbV) (g.below hbV)))
  have g1 : V.heap[w.heap.size]? = some (.cells #[.slice Ai n ci, .slice Al m cl] 25 (0, 0)) := by rw [hV]; exact box1 w _ _
  have g2 : V.heap[w.heap.size + 1]? = some (.cells #[.slice Bi n2 di, .slice Bl m2 dl] 25 (0, 0)) := by rw [hV]; exact box2 w _ _
  have F := Lib.hid (And.intro (show V.cell? ⟨w.heap.size, 0, none⟩ = some (.slice Ai n ci) by rw [cell_of_row _ _ _ _ _ _ g1]; rfl) (And.intro (show V.cell? ⟨w.heap.size, 1, none⟩ = some (.slice Al m cl) by rw [cell_of_row _ _ _ _ _ _ g1]; rfl)
    (And.intro (show V.cell? ⟨w.heap.size + 1, 0, none⟩ = some (.slice Bi n2 di) by rw [cell_of_row _ _ _ _ _ _ g2]; rfl) (show V.cell? ⟨w.heap.size + 1, 1, none⟩ = some (.slice Bl m2 dl) by rw [cell_of_row _ _ _ _ _ _ g2]; rfl))))
  have HS := Lib.hid (And.intro (heap_lt g1) (heap_lt g2))
  have HE := Lib.hid hV
  have hn7 : n ≤ 9223372036854775807 := by rw [← hn]; exact hb.lins
  have hm7 : m ≤ 9223372036854775807 := by rw [← hm]; exact hb.llns
  have kn7 : n2 ≤ 9223372036854775807 := by rw [← kn]; exact gb.lins
  have km7 : m2 ≤ 9223372036854775807 := by rw [← km]; exact gb.llns
  clear h g hb gb hn hm kn km hbV g1 g2 hV hD
  go_enter Tryz.func12, Tryz.ntmps12
  by_cases hnn : n = n2
  case neg =>
    have f1 : ((n : Int) == (n2 : Int)) = false := by rw [beq_eq_false_iff_ne]; omega
    have f2 : ((n : Int) != (n2 : Int)) = true := by rw [bne_iff_ne]; omega
    have f3 : decide ((n : Int) = (n2 : Int)) = false := decide_eq_false (by omega)
    go_wp2
    go_ret
    refine ⟨?_, by rw [← HE.out]; exact HV.out.1⟩
    rw [HZ.out.2.1.nin (by rw [HZ.out.1.1, HZ.out.1.2.2.1]; exact hnn)]
    rfl
  subst hnn
  by_cases hmm : m = m2
  case neg =>
    have f1 : ((m : Int) == (m2 : Int)) = false := by rw [beq_eq_false_iff_ne]; omega
    have f2 : ((m : Int) != (m2 : Int)) = true := by rw [bne_iff_ne]; omega
    have f3 : decide ((m : Int) = (m2 : Int)) = false := decide_eq_false (by omega)
    go_wp2
    go_ret
    refine ⟨?_, by rw [← HE.out]; exact HV.out.1⟩
    rw [HZ.out.2.1.nln (by rw [HZ.out.1.2.1, HZ.out.1.2.2.2]; exact hmm)]
    rfl
  subst hmm
  go_wp2
  rw [← HE.out]
  go_loopw [5] (fun i wr => ∃ k : Nat, k ≤ n ∧ i = .int .i64 k ∧ Hid (Below V.heap.size V wr) ∧ Hid (∀ t, t < k → (p.ins.getD t default).nm = (q.ins.getD t default).nm ∧ (p.ins.getD t default).sd = (q.ins.getD t default).sd)) (fun i _ => n - (intOf i).toNat)
  case atStart => exact ⟨0, by omega, rfl, Below.refl _ _, fun t ht => absurd ht (by omega)⟩
  case round =>
    obtain ⟨k, hk, rfl, HB, HQ⟩ := hrel
    rename World => wo
    have hs1 := HS.out.1
    have hs2 := HS.out.2
    by_cases hlt : k < n
    · obtain ⟨x, hx⟩ : ∃ x, x = p.ins.getD k default := ⟨_, rfl⟩
      obtain ⟨y, hy⟩ : ∃ y, y = q.ins.getD k default := ⟨_, rfl⟩
      have hkp : k < p.ins.length := by rw [HZ.out.1.1]; exact hlt
      have hkq : k < q.ins.length := by rw [HZ.out.1.2.2.1]; exact hlt
      have hxb : InB x := by rw [hx]; exact HZ.out.2.2.1.ins _ (mem_getD hkp)
      have hyb : InB y := by rw [hy]; exact HZ.out.2.2.2.ins _ (mem_getD hkq)
      have HF := Lib.hid (And.intro (fun h : x.nm ≠ y.nm => HZ.out.2.1.inn k hkp hkq (by rw [← hx, ← hy]; exact h)) (fun h : x.sd ≠ y.sd => HZ.out.2.1.ins k hkp hkq (by rw [← hx, ← hy]; exact h)))
      have HT := Lib.hid (fun (h1 : x.nm = y.nm) (h2 : x.sd = y.sd) => (fun t ht => by
        by_cases e : t = k
        · subst e; rw [← hx, ← hy]; exact ⟨h1, h2⟩
        · exact HQ.out t (by omega) : ∀ t, t < k + 1 → (p.ins.getD t default).nm = (q.ins.getD t default).nm ∧ (p.ins.getD t default).sd = (q.ins.getD t default).sd))
      obtain ⟨g1, o1, rfl, hg1, hl1⟩ := HV.out.2.1.ins (by omega)
      obtain ⟨g2, o2, rfl, hg2, hl2⟩ := HV.out.2.2.ins (by omega)
      obtain ⟨a0, _, A, c, a2, _, a3⟩ := hl1 k hkp
      obtain ⟨b0, _, B, d, b2, _, b3⟩ := hl2 k hkq
      rw [← hx] at a0 a2 a3
      rw [← hy] at b0 b2 b3
      have u0 := fun j => (show (wo.drewN j).cell? ⟨w.heap.size, 0, none⟩ = some (.slice (some ⟨g1, o1, none⟩) n ci) from (cell_below HB.out hs1 0).trans F.out.1)
      have v0 := fun j => (show (wo.drewN j).cell? ⟨w.heap.size + 1, 0, none⟩ = some (.slice (some ⟨g2, o2, none⟩) n di) from (cell_below HB.out hs2 0).trans F.out.2.2.1)
      have u1 := fun j => (show (wo.drewN j).cell? ⟨g1, o1 + k * 3, none⟩ = some (.string (bs x.nm)) from (cell_below HB.out hg1 _).trans a0)
      have v1 := fun j => (show (wo.drewN j).cell? ⟨g2, o2 + k * 3, none⟩ = some (.string (bs y.nm)) from (cell_below HB.out hg2 _).trans b0)
      have u2 := fun j => (show (wo.drewN j).cell? ⟨g1, o1 + k * 3 + 2, none⟩ = some (.slice A x.sd.length c) from (cell_below HB.out hg1 _).trans a2)
      have v2 := fun j => (show (wo.drewN j).cell? ⟨g2, o2 + k * 3 + 2, none⟩ = some (.slice B y.sd.length d) from (cell_below HB.out hg2 _).trans b2)
      have q1 := idxInO g1 o1 n ci k hlt
      have q2 := idxInO g2 o2 n di k hlt
      have hbb := beq_bytes x.nm
      have u00 := u0 0
      have HG := Lib.hid (And.intro hg1 hg2)
      have l1 := hxb.len
      have l2 := hyb.len
      clear a0 b0 hl1 hl2 hx hy hkp hkq hg1 hg2 hxb hyb
      change wo.cell? ⟨w.heap.size, 0, none⟩ = _ at u00
      by_cases e1 : x.nm = y.nm
      case neg =>
        have HX := Lib.hid (And.intro a2 (And.intro b2 (And.intro a3 b3)))
        clear a2 b2 a3 b3
        have f1 := nbytes e1
        have f2 : ((bs x.nm).toList != (bs y.nm).toList) = true := by rw [bne, f1]; rfl
        have f3 : decide (bs x.nm = bs y.nm) = false := decide_eq_false fun e => e1 (bs_inj e)
        go_wp2
        go_quiet (fail)
        clear u0 v0 u1 v1 u2 v2 hbb u00 q1 q2 f1 f2 f3
        go_wp2
        go_ret
        refine ⟨?_, HV.out.1.trans ((show Below V.heap.size V _ by first | exact HB.out | exact hidDrew HB _).mono HV.out.1.size)⟩
        rw [HF.out.1 e1]
        rfl
      simp only [← e1] at v1
      by_cases e2 : x.sd.length = y.sd.length
      case neg =>
        have HX := Lib.hid (And.intro a2 (And.intro b2 (And.intro a3 b3)))
        clear a2 b2 a3 b3
        have f1 : ((x.sd.length : Int) == (y.sd.length : Int)) = false := by rw [beq_eq_false_iff_ne]; omega
        have f2 : ((x.sd.length : Int) != (y.sd.length : Int)) = true := by rw [bne_iff_ne]; omega
        have f3 : decide ((x.sd.length : Int) = (y.sd.length : Int)) = false := decide_eq_false (by omega)
        go_wp2
        go_quiet (fail)
        clear u0 v0 u1 v1 u2 v2 hbb u00 q1 q2 f1 f2 f3
        go_wp2
        go_ret
        refine ⟨?_, HV.out.1.trans ((show Below V.heap.size V _ by first | exact HB.out | exact hidDrew HB _).mono HV.out.1.size)⟩
        rw [HF.out.2 (fun e => e2 (congrArg List.length e))]
        rfl
      simp only [← e2] at v2
      rw [← e2] at b2
      have HX := Lib.hid (And.intro a2 (And.intro b2 (And.intro a3 (And.intro b3 (And.intro e1 e2)))))
      clear a2 b2 a3 b3 e1 e2
      go_wp2
      go_quiet (fail)
      clear u0 v0 u1 v1 u2 v2 hbb u00
      go_wp2
      go_loopw [6] (fun i wx => ∃ j : Nat, j ≤ x.sd.length ∧ i = .int .i64 j ∧ Hid (Below V.heap.size V wx) ∧ Hid (∀ t, t < j → x.sd.getD t default = y.sd.getD t default)) (fun i _ => x.sd.length - (intOf i).toNat)
      case atStart => exact ⟨0, by omega, rfl, by first | exact HB.out | exact hidDrew HB _, fun t ht => absurd ht (by omega)⟩
      case round =>
        obtain ⟨j, hj, rfl, HB2, HP⟩ := hrel
        have hg1 := HG.out.1
        have hg2 := HG.out.2
        have u00 : wr.cell? ⟨w.heap.size, 0, none⟩ = some (.slice (some ⟨g1, o1, none⟩) n ci) := (cell_below HB2.out hs1 0).trans F.out.1
        have u20 : wr.cell? ⟨g1, o1 + k * 3 + 2, none⟩ = some (.slice A x.sd.length c) := (cell_below HB2.out hg1 _).trans HX.out.1
        by_cases hjl : j < x.sd.length
        · obtain ⟨b3, o3, rfl, lb3, hn3⟩ := HX.out.2.2.1 (by omega)
          have hjy : j < y.sd.length := by have := HX.out.2.2.2.2.2; omega
          obtain ⟨b4, o4, rfl, lb4, hn4⟩ := HX.out.2.2.2.1 (by omega)
          obtain ⟨p1, hp1⟩ : ∃ p1, p1 = x.sd.getD j default := ⟨_, rfl⟩
          obtain ⟨p2, hp2⟩ : ∃ p2, p2 = y.sd.getD j default := ⟨_, rfl⟩
          have HP12 := Lib.hid (And.intro hp1 hp2)
          obtain ⟨m0, m1⟩ := hn3 j hjl
          obtain ⟨m2, m3⟩ := hn4 j hjy
          rw [← hp1] at m0 m1
          rw [← hp2] at m2 m3
          have u0 := fun t => (show (wr.drewN t).cell? ⟨w.heap.size, 0, none⟩ = some (.slice (some ⟨g1, o1, none⟩) n ci) from u00)
          have v0 := fun t => (show (wr.drewN t).cell? ⟨w.heap.size + 1, 0, none⟩ = some (.slice (some ⟨g2, o2, none⟩) n di) from (cell_below HB2.out hs2 0).trans F.out.2.2.1)
          have u2 := fun t => (show (wr.drewN t).cell? ⟨g1, o1 + k * 3 + 2, none⟩ = some (.slice (some ⟨b3, o3, none⟩) x.sd.length c) from u20)
          have v2 := fun t => (show (wr.drewN t).cell? ⟨g2, o2 + k * 3 + 2, none⟩ = some (.slice (some ⟨b4, o4, none⟩) x.sd.length d) from (cell_below HB2.out hg2 _).trans HX.out.2.1)
          have y0 := fun t => (show (wr.drewN t).cell? ⟨b3, o3 + j * 2, none⟩ = some (.string (bs p1.1)) from (cell_below HB2.out lb3 _).trans m0)
          have y1 := fun t => (show (wr.drewN t).cell? ⟨b3, o3 + j * 2 + 1, none⟩ = some (.int .i64 p1.2) from (cell_below HB2.out lb3 _).trans m1)
          have y2 := fun t => (show (wr.drewN t).cell? ⟨b4, o4 + j * 2, none⟩ = some (.string (bs p2.1)) from (cell_below HB2.out lb4 _).trans m2)
          have y3 := fun t => (show (wr.drewN t).cell? ⟨b4, o4 + j * 2 + 1, none⟩ = some (.int .i64 p2.2) from (cell_below HB2.out lb4 _).trans m3)
          have q3 := idxSd b3 o3 x.sd.length c j hjl
          have q4 := idxSd b4 o4 x.sd.length d j hjl
          clear hn3 hn4 m0 m1 m2 m3 hp1 hp2
          by_cases e5 : p1 = p2
          case neg =>
            have hne := fun W => neqU p1 p2 e5 W
            go_wp2
            go_quiet (fail)
            clear u0 v0 u2 v2 y0 y1 y2 y3 q1 q2 q3 q4 u00 u20 hne
            go_wp2
            go_ret
            refine ⟨?_, HV.out.1.trans ((show Below V.heap.size V _ by first | exact HB2.out | exact hidDrew HB2 _).mono HV.out.1.size)⟩
            rw [HF.out.2 (sd_ne (j := j) (by rw [← HP12.out.1, ← HP12.out.2]; exact e5))]
            rfl
          subst e5
          have hne := fun W => neqS p1.1 p1.2 W
          go_wp2
          go_quiet (fail)
          clear u0 v0 u2 v2 y0 y1 y2 y3 q1 q2 q3 q4 u00 u20 hne
          go_wp2
          go_roundw
          case rel =>
            refine ⟨j + 1, by omega, by go_num, hidDrew HB2 _, fun t ht => ?_⟩
            by_cases e : t = j
            · subst e; rw [← HP12.out.1, ← HP12.out.2]
            · exact HP.out t (by omega)
          case measure => simp [intOf]; omega
        · obtain hjx : x.sd.length = j := by omega
          go_wp2
          clear u00 u20 q1 q2
          go_roundw
          case rel => exact ⟨k + 1, by omega, by go_num, HB2, HT.out HX.out.2.2.2.2.1 (sd_eq HX.out.2.2.2.2.2 (by rw [hjx]; exact HP.out))⟩
          case measure => simp [intOf]; omega
    · obtain hkn : n = k := by omega
      subst hkn
      have u00 : wo.cell? ⟨w.heap.size, 0, none⟩ = some (.slice Ai n ci) := (cell_below HB.out hs1 0).trans F.out.1
      go_wp2
      clear u00
      clear hlt
      go_loopw [7] (fun i wr => ∃ k : Nat, k ≤ m ∧ i = .int .i64 k ∧ Hid (Below V.heap.size V wr) ∧ Hid (∀ t, t < k → (p.lns.getD t default).nm = (q.lns.getD t default).nm ∧ (p.lns.getD t default).its.map zI = (q.lns.getD t default).its.map zI)) (fun i _ => m - (intOf i).toNat)
      case atStart => exact ⟨0, by omega, rfl, HB, fun t ht => absurd ht (by omega)⟩
      case round =>
        obtain ⟨k, hk2, rfl, HB2, HP⟩ := hrel
        by_cases hlt : k < m
        · obtain ⟨x, hx⟩ : ∃ x, x = p.lns.getD k default := ⟨_, rfl⟩
          obtain ⟨y, hy⟩ : ∃ y, y = q.lns.getD k default := ⟨_, rfl⟩
          have hkp : k < p.lns.length := by rw [HZ.out.1.2.1]; exact hlt
          have hkq : k < q.lns.length := by rw [HZ.out.1.2.2.2]; exact hlt
          have hxb : LnB x := by rw [hx]; exact HZ.out.2.2.1.lns _ (mem_getD hkp)
          have hyb : LnB y := by rw [hy]; exact HZ.out.2.2.2.lns _ (mem_getD hkq)
          have HF := Lib.hid (And.intro (fun h : x.nm ≠ y.nm => HZ.out.2.1.lnn k hkp hkq (by rw [← hx, ← hy]; exact h)) (fun h : x.its.map zI ≠ y.its.map zI => HZ.out.2.1.lni k hkp hkq (by rw [← hx, ← hy]; exact h)))
          have HT := Lib.hid (fun (h1 : x.nm = y.nm) (h2 : x.its.map zI = y.its.map zI) => (fun t ht => by
            by_cases e : t = k
            · subst e; rw [← hx, ← hy]; exact ⟨h1, h2⟩
            · exact HP.out t (by omega) : ∀ t, t < k + 1 → (p.lns.getD t default).nm = (q.lns.getD t default).nm ∧ (p.lns.getD t default).its.map zI = (q.lns.getD t default).its.map zI))
          obtain ⟨g1, o1, rfl, hg1, hl1⟩ := HV.out.2.1.lns (by omega)
          obtain ⟨g2, o2, rfl, hg2, hl2⟩ := HV.out.2.2.lns (by omega)
          obtain ⟨a0, _, A, c, a2, _, a3⟩ := hl1 k hkp
          obtain ⟨b0, _, B, d, b2, _, b3⟩ := hl2 k hkq
          rw [← hx] at a0 a2 a3
          rw [← hy] at b0 b2 b3
          obtain ⟨z, hz⟩ : ∃ z, z = x.its.length := ⟨_, rfl⟩
          obtain ⟨z2, hz2⟩ : ∃ z2, z2 = y.its.length := ⟨_, rfl⟩
          rw [← hz] at a2
          rw [← hz2] at b2
          have q1 := idxLnO g1 o1 m cl k hlt
          have q2 := idxLnO g2 o2 m dl k hlt
          have hbb := beq_bytes x.nm
          have u00 : wr.cell? ⟨w.heap.size, 1, none⟩ = some (.slice (some ⟨g1, o1, none⟩) m cl) := (cell_below HB2.out hs1 1).trans F.out.2.1
          by_cases e1 : x.nm = y.nm
          case neg =>
            have u0 := fun j => (show (wr.drewN j).cell? ⟨w.heap.size, 1, none⟩ = some (.slice (some ⟨g1, o1, none⟩) m cl) from u00)
            have v0 := fun j => (show (wr.drewN j).cell? ⟨w.heap.size + 1, 1, none⟩ = some (.slice (some ⟨g2, o2, none⟩) m dl) from (cell_below HB2.out hs2 1).trans F.out.2.2.2)
            have u1 := fun j => (show (wr.drewN j).cell? ⟨g1, o1 + k * 3, none⟩ = some (.string (bs x.nm)) from (cell_below HB2.out hg1 _).trans a0)
            have v1 := fun j => (show (wr.drewN j).cell? ⟨g2, o2 + k * 3, none⟩ = some (.string (bs y.nm)) from (cell_below HB2.out hg2 _).trans b0)
            clear a0 a2 a3 b0 b2 b3 hl1 hl2 hx hy hkp hkq hg1 hg2 hxb hyb hz hz2
            have f1 := nbytes e1
            have f2 : ((bs x.nm).toList != (bs y.nm).toList) = true := by rw [bne, f1]; rfl
            have f3 : decide (bs x.nm = bs y.nm) = false := decide_eq_false fun e => e1 (bs_inj e)
            go_wp2
            go_quiet (fail)
            clear u0 v0 u1 v1 hbb u00 q1 q2 f1 f2 f3
            go_wp2
            go_ret
            refine ⟨?_, HV.out.1.trans ((show Below V.heap.size V _ by first | exact HB2.out | exact hidDrew HB2 _).mono HV.out.1.size)⟩
            rw [HF.out.1 e1]
            rfl
          rw [← e1] at b0
          have KS : ∀ w' : World, Hid (Below V.heap.size V w') → w'.cell? ⟨w.heap.size, 1, none⟩ = some (.slice (some ⟨g1, o1, none⟩) m cl) ∧ w'.cell? ⟨w.heap.size + 1, 1, none⟩ = some (.slice (some ⟨g2, o2, none⟩) m dl) ∧ w'.cell? ⟨g1, o1 + k * 3, none⟩ = some (.string (bs x.nm)) ∧ w'.cell? ⟨g2, o2 + k * 3, none⟩ = some (.string (bs x.nm)) ∧ w'.cell? ⟨g1, o1 + k * 3 + 2, none⟩ = some (.slice A z c) ∧ w'.cell? ⟨g2, o2 + k * 3 + 2, none⟩ = some (.slice B z2 d) ∧ Hid (Below V.heap.size V w') := fun w' h => ⟨(cell_below h.out hs1 1).trans F.out.2.1, (cell_below h.out hs2 1).trans F.out.2.2.2, (cell_below h.out hg1 _).trans a0, (cell_below h.out hg2 _).trans b0, (cell_below h.out hg1 _).trans a2, (cell_below h.out hg2 _).trans b2, h⟩
          have HR := Lib.hid (And.intro a3 (And.intro b3 e1))
          clear a0 a2 a3 b0 b2 b3 hl1 hl2 hx hy hkp hkq hg1 hg2 e1
          cases e2 : decide (x.its.map zI = y.its.map zI) with
          | false =>
            have HIT := Lib.hid (fun W h1 h2 => items_two A B x.its y.its z z2 c d false W (uncmp e2) hz.symm hz2.symm h1 h2 (by rw [hz]; exact hxb.len) (by rw [hz2]; exact hyb.len) hxb.its hyb.its)
            have HE2 := Lib.hid e2
            clear e2 hz hz2 hxb hyb
            go_wp2
            go_region_held3 (fun w' => w'.cell? ⟨w.heap.size, 1, none⟩ = some (.slice (some ⟨g1, o1, none⟩) m cl) ∧ w'.cell? ⟨w.heap.size + 1, 1, none⟩ = some (.slice (some ⟨g2, o2, none⟩) m dl) ∧ w'.cell? ⟨g1, o1 + k * 3, none⟩ = some (.string (bs x.nm)) ∧ w'.cell? ⟨g2, o2 + k * 3, none⟩ = some (.string (bs x.nm)) ∧ w'.cell? ⟨g1, o1 + k * 3 + 2, none⟩ = some (.slice A z c) ∧ w'.cell? ⟨g2, o2 + k * 3 + 2, none⟩ = some (.slice B z2 d) ∧ Hid (Below V.heap.size V w'))
              (first | (exact KS _ (by first | assumption | exact hidDrew (by assumption) _)) | go_keep)
              (first | (go_at_call 16; refine (HIT.out _ (itsUH HR.out.1 (by simp [*])) (itsUH HR.out.2.1 (by simp [*]))).mono ?_; rintro e w5 ⟨rfl, g5⟩; have k5 : Hid (Below V.heap.size V w5) := hidTrans (by simp [*]) g5; clear g5))
            clear KS q1 q2 hbb u00
            go_wp2
            go_ret
            refine ⟨?_, HV.out.1.trans ((show Below V.heap.size V _ by first | exact k5.out | exact hidDrew k5 _).mono HV.out.1.size)⟩
            rw [HF.out.2 (of_decide_eq_false HE2.out)]
            rfl
          | true =>
            have HIT := Lib.hid (fun W h1 h2 => items_two A B x.its y.its z z2 c d true W (uncmp e2) hz.symm hz2.symm h1 h2 (by rw [hz]; exact hxb.len) (by rw [hz2]; exact hyb.len) hxb.its hyb.its)
            have HE2 := Lib.hid e2
            clear e2 hz hz2 hxb hyb
            go_wp2
            go_region_held3 (fun w' => w'.cell? ⟨w.heap.size, 1, none⟩ = some (.slice (some ⟨g1, o1, none⟩) m cl) ∧ w'.cell? ⟨w.heap.size + 1, 1, none⟩ = some (.slice (some ⟨g2, o2, none⟩) m dl) ∧ w'.cell? ⟨g1, o1 + k * 3, none⟩ = some (.string (bs x.nm)) ∧ w'.cell? ⟨g2, o2 + k * 3, none⟩ = some (.string (bs x.nm)) ∧ w'.cell? ⟨g1, o1 + k * 3 + 2, none⟩ = some (.slice A z c) ∧ w'.cell? ⟨g2, o2 + k * 3 + 2, none⟩ = some (.slice B z2 d) ∧ Hid (Below V.heap.size V w'))
              (first | (exact KS _ (by first | assumption | exact hidDrew (by assumption) _)) | go_keep)
              (first | (go_at_call 16; refine (HIT.out _ (itsUH HR.out.1 (by simp [*])) (itsUH HR.out.2.1 (by simp [*]))).mono ?_; rintro e w5 ⟨rfl, g5⟩; have k5 : Hid (Below V.heap.size V w5) := hidTrans (by simp [*]) g5; clear g5))
            clear KS q1 q2 hbb u00
            go_wp2
            go_roundw
            case rel => exact ⟨k + 1, by omega, by go_num, k5, HT.out HR.out.2.2 (of_decide_eq_true HE2.out)⟩
            case measure => simp [intOf]; omega
        · obtain hkm : m = k := by omega
          subst hkm
          have u00 : wr.cell? ⟨w.heap.size, 1, none⟩ = some (.slice Al m cl) := (cell_below HB2.out hs1 1).trans F.out.2.1
          go_wp2
          go_ret
          refine ⟨?_, HV.out.1.trans (HB2.out.mono HV.out.1.size)⟩
          rw [HZ.out.2.1.eq (by rw [HZ.out.1.1, HZ.out.1.2.2.1]) (by rw [HZ.out.1.2.1, HZ.out.1.2.2.2]) (fun t ht => HQ.out t (by rw [← HZ.out.1.1]; exact ht)) (fun t ht => HP.out t (by rw [← HZ.out.1.2.1]; exact ht))]
          rfl
end Go.Proofs.YtbapgdhcbfpdoaaGreatDoor
