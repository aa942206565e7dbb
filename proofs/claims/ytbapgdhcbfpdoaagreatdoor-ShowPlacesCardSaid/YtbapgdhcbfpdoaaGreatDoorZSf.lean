/- Contract of the document's Items, in both directions. -/
import Derived.Test.YtbapgdhcbfpdoaaGreatDoorZSe
import Derived.Test.YtbapgdhcbfpdoaaGreatDoorZPi
namespace Go.Proofs.YtbapgdhcbfpdoaaGreatDoor
open Go.RowKit
set_option linter.unusedVariables false
theorem zI_of {x y : It} (h1 : x.how = y.how) (h2 : x.fn = y.fn) (h3 : x.nm = y.nm) (h4 : x.ns = y.ns) : zI x = zI y := (zI_iff x y).2 ⟨h1, h2, h3, h4⟩
theorem nbytes {a b : List UInt8} (h : a ≠ b) : ((bs a).toList == (bs b).toList) = false := by
  rw [ByteArray.toList_eq, ByteArray.toList_eq, bs_list, bs_list, beq_eq_false_iff_ne]; exact h
/-- What the two lists' comparison gives. -/
structure Cmp (l m : List It) (D : Bool) : Prop where
  ne : ∀ k, k < l.length → k < m.length → zI (l.getD k default) ≠ zI (m.getD k default) → D = false
  eq : l.length = m.length → (∀ k, k < l.length → zI (l.getD k default) = zI (m.getD k default)) → D = true
  len : l.length ≠ m.length → D = false
theorem Cmp.of (l m : List It) : Cmp l m (decide (l.map zI = m.map zI)) :=
  ⟨fun k h1 h2 h => decide_eq_false (its_ne h1 h2 h), fun h1 h => decide_eq_true (its_eq h1 h), fun h => decide_eq_false fun e => h (by have := congrArg List.length e; simpa using this)⟩
set_option maxRecDepth 100000 in
set_option maxHeartbeats 3200000 in
theorem items_two (A B : Option Addr) (l m : List It) (n n2 c d : Nat) (D : Bool) (w : World) (hD : Cmp l m D) (hn : l.length = n) (hm : m.length = n2) (h : ItsU w A l) (g : ItsU w B m) (hn7 : n ≤ 9223372036854775807) (hm7 : n2 ≤ 9223372036854775807) (hb : ∀ x ∈ l, ItB x) (gb : ∀ x ∈ m, ItB x) :
    Calls Tryz.prog 16 #[.slice A n c, .slice B n2 d] w fun e w' => e = .returned (.bool D) ∧ Below w.heap.size w w' := by
  have H := Lib.hid h
  have G := Lib.hid g
  have HZ := Lib.hid (And.intro hn (And.intro hm (And.intro hD (And.intro hb gb))))
  clear h g hb gb hn hm hD
  go_enter Tryz.func16, Tryz.ntmps16
  by_cases hnn : n = n2
  case neg =>
    have hne : ((n : Int) == (n2 : Int)) = false := by rw [beq_eq_false_iff_ne]; omega
    go_wp2
    go_ret
    refine ⟨?_, Below.refl _ _⟩
    rw [HZ.out.2.2.1.len (by rw [HZ.out.1, HZ.out.2.1]; exact hnn)]
    rfl
  subst hnn
  go_wp2
  go_loopw [5] (fun i wr => ∃ k : Nat, k ≤ n ∧ i = .int .i64 k ∧ Hid (Below w.heap.size w wr) ∧ Hid (∀ t, t < k → zI (l.getD t default) = zI (m.getD t default))) (fun i _ => n - (intOf i).toNat)
  case atStart => exact ⟨0, by omega, rfl, Below.refl _ _, fun t ht => absurd ht (by omega)⟩
  case round =>
    obtain ⟨k, hk, rfl, HB, HQ⟩ := hrel
    rename World => wo
    by_cases hlt : k < n
    · obtain ⟨x, hx⟩ : ∃ x, x = l.getD k default := ⟨_, rfl⟩
      obtain ⟨y, hy⟩ : ∃ y, y = m.getD k default := ⟨_, rfl⟩
      have hkl : k < l.length := by rw [HZ.out.1]; exact hlt
      have hkm : k < m.length := by rw [HZ.out.2.1]; exact hlt
      have hxb : ItB x := by rw [hx, List.getD_eq_getElem?_getD, List.getElem?_eq_getElem hkl]; exact HZ.out.2.2.2.1 _ (List.getElem_mem hkl)
      have hyb : ItB y := by rw [hy, List.getD_eq_getElem?_getD, List.getElem?_eq_getElem hkm]; exact HZ.out.2.2.2.2 _ (List.getElem_mem hkm)
      have HF := Lib.hid (fun h : zI x ≠ zI y => HZ.out.2.2.1.ne k hkl hkm (by rw [← hx, ← hy]; exact h))
      have HT := Lib.hid (fun h : zI x = zI y => (fun t ht => by
        by_cases e : t = k
        · subst e; rw [← hx, ← hy]; exact h
        · exact HQ.out t (by omega) : ∀ t, t < k + 1 → zI (l.getD t default) = zI (m.getD t default)))
      obtain ⟨b1, o1, rfl, lb1, hi1⟩ := H.out (by omega)
      obtain ⟨b2, o2, rfl, lb2, hi2⟩ := G.out (by omega)
      obtain ⟨a0, _, a2, a3, A1, c1, a4, _, a5⟩ := hi1 k hkl
      obtain ⟨b0, _, b2', b3, A2, c2, b4, _, b5⟩ := hi2 k hkm
      rw [← hx] at a0 a2 a3 a4 a5
      rw [← hy] at b0 b2' b3 b4 b5
      have hbr := HB.out.size
      have u0 := fun j => (show (wo.drewN j).cell? ⟨b1, o1 + k * 5, none⟩ = some (.int .i64 x.how) from (cell_below HB.out lb1 _).trans a0)
      have u2 := fun j => (show (wo.drewN j).cell? ⟨b1, o1 + k * 5 + 2, none⟩ = some (.int .u8 x.fn) from (cell_below HB.out lb1 _).trans a2)
      have u3 := fun j => (show (wo.drewN j).cell? ⟨b1, o1 + k * 5 + 3, none⟩ = some (.string (bs x.nm)) from (cell_below HB.out lb1 _).trans a3)
      have u4 := fun j => (show (wo.drewN j).cell? ⟨b1, o1 + k * 5 + 4, none⟩ = some (.slice A1 x.ns.length c1) from (cell_below HB.out lb1 _).trans a4)
      have v0 := fun j => (show (wo.drewN j).cell? ⟨b2, o2 + k * 5, none⟩ = some (.int .i64 y.how) from (cell_below HB.out lb2 _).trans b0)
      have v2 := fun j => (show (wo.drewN j).cell? ⟨b2, o2 + k * 5 + 2, none⟩ = some (.int .u8 y.fn) from (cell_below HB.out lb2 _).trans b2')
      have v3 := fun j => (show (wo.drewN j).cell? ⟨b2, o2 + k * 5 + 3, none⟩ = some (.string (bs y.nm)) from (cell_below HB.out lb2 _).trans b3)
      have v4 := fun j => (show (wo.drewN j).cell? ⟨b2, o2 + k * 5 + 4, none⟩ = some (.slice A2 y.ns.length c2) from (cell_below HB.out lb2 _).trans b4)
      have q1 := idxIt b1 o1 n c k hlt
      have q2 := idxIt b2 o2 n d k hlt
      have hbb := beq_bytes x.nm
      have HN := Lib.hid (And.intro a5 (And.intro b5 (And.intro hxb hyb)))
      have HK := Lib.hid (And.intro lb1 lb2)
      have l1 := hxb.len
      have l2 := hyb.len
      clear a0 a2 a3 a4 a5 b0 b2' b3 b4 b5 hi1 hi2 hx hy hkl hkm hxb hyb
      by_cases e1 : x.how = y.how
      case neg =>
        have f1 : (x.how == y.how) = false := by rw [beq_eq_false_iff_ne]; exact e1
        have f2 : (x.how != y.how) = true := by rw [bne_iff_ne]; exact e1
        have f3 : decide (x.how = y.how) = false := decide_eq_false e1
        go_wp2
        go_quiet (fail)
        clear u0 u2 u3 v0 v2 v3 u4 v4 hbb q1 q2 f1 f2 f3
        go_wp2
        go_ret
        refine ⟨?_, by first | exact HB.out | exact below_drewN HB.out HB.out.size⟩
        rw [HF.out (fun e => e1 ((zI_iff x y).1 e).1)]
        rfl
      simp only [← e1] at v0
      by_cases e2 : x.fn = y.fn
      case neg =>
        have f1 : (x.fn == y.fn) = false := by rw [beq_eq_false_iff_ne]; exact e2
        have f2 : (x.fn != y.fn) = true := by rw [bne_iff_ne]; exact e2
        have f3 : decide (x.fn = y.fn) = false := decide_eq_false e2
        go_wp2
        go_quiet (fail)
        clear u0 u2 u3 v0 v2 v3 u4 v4 hbb q1 q2 f1 f2 f3
        go_wp2
        go_ret
        refine ⟨?_, by first | exact HB.out | exact below_drewN HB.out HB.out.size⟩
        rw [HF.out (fun e => e2 ((zI_iff x y).1 e).2.1)]
        rfl
      simp only [← e2] at v2
      by_cases e3 : x.nm = y.nm
      case neg =>
        have f1 := nbytes e3
        have f2 : ((bs x.nm).toList != (bs y.nm).toList) = true := by rw [bne, f1]; rfl
        have f3 : decide (bs x.nm = bs y.nm) = false := decide_eq_false fun e => e3 (bs_inj e)
        go_wp2
        go_quiet (fail)
        clear u0 u2 u3 v0 v2 v3 u4 v4 hbb q1 q2 f1 f2 f3
        go_wp2
        go_ret
        refine ⟨?_, by first | exact HB.out | exact below_drewN HB.out HB.out.size⟩
        rw [HF.out (fun e => e3 ((zI_iff x y).1 e).2.2.1)]
        rfl
      simp only [← e3] at v3
      by_cases e4 : x.ns.length = y.ns.length
      case neg =>
        have f1 : ((x.ns.length : Int) == (y.ns.length : Int)) = false := by rw [beq_eq_false_iff_ne]; omega
        have f2 : ((x.ns.length : Int) != (y.ns.length : Int)) = true := by rw [bne_iff_ne]; omega
        have f3 : decide ((x.ns.length : Int) = (y.ns.length : Int)) = false := decide_eq_false (by omega)
        go_wp2
        go_quiet (fail)
        clear u0 u2 u3 v0 v2 v3 u4 v4 hbb q1 q2 f1 f2 f3
        go_wp2
        go_ret
        refine ⟨?_, by first | exact HB.out | exact below_drewN HB.out HB.out.size⟩
        rw [HF.out (fun e => e4 (congrArg List.length ((zI_iff x y).1 e).2.2.2))]
        rfl
      simp only [← e4] at v4
      have HE := Lib.hid (And.intro e1 (And.intro e2 (And.intro e3 e4)))
      clear e1 e2 e3 e4
      go_wp2
      go_quiet (fail)
      clear u0 u2 u3 v0 v2 v3 hbb
      go_wp2
      have HU := Lib.hid (And.intro (u4 0) (v4 0))
      clear u4 v4
      go_loopw [6] (fun i wx => ∃ j : Nat, j ≤ x.ns.length ∧ i = .int .i64 j ∧ Hid (Below wo.heap.size wo wx) ∧ Hid (∀ t, t < j → x.ns.getD t 0 = y.ns.getD t 0)) (fun i _ => x.ns.length - (intOf i).toNat)
      case atStart => exact ⟨0, by omega, rfl, by first | exact Below.refl _ _ | exact below_drewN (Below.refl _ _) (Nat.le_refl _), fun t ht => absurd ht (by omega)⟩
      case round =>
        obtain ⟨j, hj, rfl, HB2, HP⟩ := hrel
        have hs2 := HB2.out.size
        have hb1 : b1 < wo.heap.size := by have := HK.out.1; omega
        have hb2 : b2 < wo.heap.size := by have := HK.out.2; omega
        by_cases hjl : j < x.ns.length
        · obtain ⟨b3, o3, rfl, lb3, hn3⟩ := HN.out.1 (by omega)
          obtain ⟨b4, o4, rfl, lb4, hn4⟩ := HN.out.2.1 (by have := HE.out.2.2.2; omega)
          have hjy : j < y.ns.length := by have := HE.out.2.2.2; omega
          have u4 := fun t => (show (wr.drewN t).cell? ⟨b1, o1 + k * 5 + 4, none⟩ = some (.slice (some ⟨b3, o3, none⟩) x.ns.length c1) from (cell_below HB2.out hb1 _).trans HU.out.1)
          have v4 := fun t => (show (wr.drewN t).cell? ⟨b2, o2 + k * 5 + 4, none⟩ = some (.slice (some ⟨b4, o4, none⟩) x.ns.length c2) from (cell_below HB2.out hb2 _).trans HU.out.2)
          obtain ⟨p1, hp1⟩ : ∃ p1, p1 = x.ns.getD j 0 := ⟨_, rfl⟩
          obtain ⟨p2, hp2⟩ : ∃ p2, p2 = y.ns.getD j 0 := ⟨_, rfl⟩
          have HP12 := Lib.hid (And.intro hp1 hp2)
          have y3 := fun t => (show (wr.drewN t).cell? ⟨b3, o3 + j, none⟩ = some (.int .i64 p1) from (cell_below HB2.out (by omega) _).trans ((cell_below HB.out lb3 _).trans (by rw [hp1]; exact hn3 j hjl)))
          have y4 := fun t => (show (wr.drewN t).cell? ⟨b4, o4 + j, none⟩ = some (.int .i64 p2) from (cell_below HB2.out (by omega) _).trans ((cell_below HB.out lb4 _).trans (by rw [hp2]; exact hn4 j hjy)))
          have q3 := idxNm b3 o3 x.ns.length c1 j hjl
          have q4 := idxNm b4 o4 x.ns.length c2 j hjl
          have u40 : wr.cell? ⟨b1, o1 + k * 5 + 4, none⟩ = some (.slice (some ⟨b3, o3, none⟩) x.ns.length c1) := u4 0
          clear hn3 hn4 hp1 hp2
          by_cases e5 : p1 = p2
          case neg =>
            have f1 : (p1 == p2) = false := by rw [beq_eq_false_iff_ne]; exact e5
            have f2 : (p1 != p2) = true := by rw [bne_iff_ne]; exact e5
            have f3 : decide (p1 = p2) = false := decide_eq_false e5
            go_wp2
            go_quiet (fail)
            clear u4 v4 y3 y4 q1 q2 q3 q4 u40 f1 f2 f3
            go_wp2
            go_ret
            refine ⟨?_, HB.out.trans ((show Below wo.heap.size wo _ by first | exact HB2.out | exact below_drewN HB2.out hs2).mono HB.out.size)⟩
            rw [HF.out (fun e => e5 (by rw [HP12.out.1, HP12.out.2, ((zI_iff x y).1 e).2.2.2]))]
            rfl
          subst e5
          go_wp2
          go_quiet (fail)
          clear u4 v4 y3 y4 q1 q2 q3 q4 u40
          go_wp2
          go_roundw
          case rel =>
            refine ⟨j + 1, by omega, by go_num, below_drewN HB2.out hs2, fun t ht => ?_⟩
            by_cases e : t = j
            · subst e; rw [← HP12.out.1, ← HP12.out.2]
            · exact HP.out t (by omega)
          case measure => simp [intOf]; omega
        · obtain rfl : j = x.ns.length := by omega
          have u40 : wr.cell? ⟨b1, o1 + k * 5 + 4, none⟩ = some (.slice A1 x.ns.length c1) := (cell_below HB2.out hb1 _).trans HU.out.1
          go_wp2
          clear u40 q1 q2
          go_roundw
          case rel => exact ⟨k + 1, by omega, by go_num, HB.out.trans (HB2.out.mono HB.out.size), HT.out (zI_of HE.out.1 HE.out.2.1 HE.out.2.2.1 (ns_eq HE.out.2.2.2 HP.out))⟩
          case measure => simp [intOf]; omega
    · obtain rfl : k = n := by omega
      go_wp2
      go_ret
      refine ⟨?_, HB.out⟩
      rw [HZ.out.2.2.1.eq (by rw [HZ.out.1, HZ.out.2.1]) (fun t ht => HQ.out t (by rw [← HZ.out.1]; exact ht))]
      rfl
end Go.Proofs.YtbapgdhcbfpdoaaGreatDoor
