/- A program copied: the contract of copied. -/
import Derived.Test.YtbapgdhcbfpdoaaGreatDoorZRk
namespace Go.Proofs.YtbapgdhcbfpdoaaGreatDoor
open Go.RowKit
set_option linter.unusedVariables false
set_option linter.unusedSimpArgs false
set_option maxRecDepth 100000
def cpRes (w : World) (p : Pg) (e : Ending) (w' : World) : Prop := ∃ Ai ci Al cl, e = .returned (pgV Ai p.ins.length ci Al p.lns.length cl) ∧ Below w.heap.size w w' ∧ PA w' (cpP p) Ai Al p.ins.length ci p.lns.length cl
theorem cp_start (w : World) (p : Pg) (o : Obj) : CN (((w.alloc o).alloc (.cells #[.slice none 0 0, .slice none 0 0] 25)).alloc (.cells #[.slice none 0 0, .slice none 0 0] 25)) (w.heap.size + 1 + 1) p 0 [] (.slice none 0 0) (((w.alloc o).alloc (.cells #[.slice none 0 0, .slice none 0 0] 25)).alloc (.cells #[.slice none 0 0, .slice none 0 0] 25)) := by
  refine ⟨⟨?_, World.ownsRow_nil _ _ _ _, World.ownsRow_nil _ _ _ _, fun _ h => (by cases h), fun _ h => (by cases h)⟩, Below.refl _ _, rfl⟩
  have h := heap_alloc_new ((w.alloc o).alloc (.cells #[.slice none 0 0, .slice none 0 0] 25)) (.cells #[.slice none 0 0, .slice none 0 0] 25)
  rw [show ((w.alloc o).alloc (.cells #[.slice none 0 0, .slice none 0 0] 25)).heap.size = w.heap.size + 1 + 1 by simp] at h
  exact h
theorem cp_bel (w : World) (o : Obj) : Below w.heap.size w (((w.alloc o).alloc (.cells #[.slice none 0 0, .slice none 0 0] 25)).alloc (.cells #[.slice none 0 0, .slice none 0 0] 25)) := (((Below.refl _ _).alloc (Nat.le_refl _) _).alloc (by simp) _).alloc (by simp; omega) _
theorem below_drew1 {B : Nat} {a w : World} (h : Below B a.drew w) : Below B a w := ⟨h.os, h.tape, h.output, h.size, h.block⟩
theorem in_cells (nm : List UInt8) (n : Int) (v : Value) (hv : v.oneCell' = true) : ∀ u ∈ [Value.string (bs nm), .int .i64 n, v], u.oneCell' = true := by
  intro u hu; simp at hu; rcases hu with rfl | rfl | rfl
  · rfl
  · rfl
  · exact hv
theorem PS.out1 {w w' : World} {P B : Nat} {xs : List NM} {ls : List LM} {vi vl : Value} (h : PS w P xs ls vi vl) (hB : B ≤ P) {n0 : Nat} (F : Fr (fun k => k = n0) w w') (l0 : n0 < P)
    {c0 : Array Value} {f0 : Nat × Nat} (h0 : w.heap[n0]? = some (.cells c0 25 f0)) : PV w' B xs ls vi vl := by
  have hne : ∀ {b : Nat} {cs : Array Value} {T : TypeId} {fr : Nat × Nat}, w.heap[b]? = some (.cells cs T fr) → T ≠ 25 → w'.heap[b]? = w.heap[b]? := fun {b cs T fr} hb hT1 => F.block b (heap_lt hb) (by
    rintro rfl
    rw [h0] at hb; simp at hb; exact hT1 hb.2.1.symm)
  exact ⟨row_keep h.owi (fun k hk hl => F.block k hl (by have := (row_base h.owi hk).1; omega)) (by omega), row_keep h.owl (fun k hk hl => F.block k hl (by have := (row_base h.owl hk).1; omega)) (by omega),
    fun m hm => ⟨RdI.grow (h.its m hm).1 F.size fun _ _ _ _ hb hT => hne hb (by rcases hT with rfl | rfl <;> decide), (h.its m hm).2⟩,
    fun m hm => ⟨RdS.grow (h.sds m hm).1 F.size fun _ _ _ hb => hne hb (by decide), (h.sds m hm).2⟩⟩
theorem it_one5 (a b c : Int) (s : ByteArray) (v : Value) {A : Option Addr} {n k : Nat} (hv : v = .slice A n k := by rfl) : ∀ u ∈ [Value.int .i64 a, .int .i64 b, .int .u8 c, .string s, v], u.oneCell' = true := by
  intro u hu; subst hv; simp at hu; rcases hu with rfl | rfl | rfl | rfl | rfl <;> rfl
theorem ints_one5 {l : List Int} : ∀ u ∈ l.map (Value.int .i64), u.oneCell' = true := fun u hu => by
  obtain ⟨n, _, rfl⟩ := List.mem_map.1 hu; rfl
theorem own_on {wz w3 w5 : World} {B n : Nat} {v : Value} {xs : List Value} (h : wz.ownsRow B 37 5 v n xs) (h3 : ∀ i, i < wz.heap.size → w3.heap[i]? = wz.heap[i]?) (h5 : ∀ b, b < w3.heap.size → (Value.slice (some ⟨wz.heap.size + 1, 0, none⟩) 0 0).ownBlock ≠ some b → w5.heap[b]? = w3.heap[b]?) (hle : wz.heap.size + 1 ≤ w3.heap.size) (x : Value) (o : Obj) :
    ((w5.setCell ⟨wz.heap.size, 4, none⟩ x).alloc o).ownsRow B 37 5 v n xs :=
  World.ownsRow.alloc (row_keep h (fun j hj hl => (Fr.set.heap_set_other (by omega)).trans ((h5 j (by omega) (by simp [Value.ownBlock]; omega)).trans (h3 j hl))) (Nat.le_refl _)) _
set_option maxHeartbeats 3200000 in
theorem copied_any (w : World) (p : Pg) (Ai Al : Option Addr) (n ci m cl : Nat) (h : PA w p Ai Al n ci m cl) (hB : CpB p) : Calls Tryz.prog 11 #[pgV Ai n ci Al m cl] w (cpRes w p) := by
  obtain ⟨W0, hW0⟩ : ∃ W0, W0 = (((w.alloc (pgC Ai n ci Al m cl)).alloc (.cells #[.slice none 0 0, .slice none 0 0] 25)).alloc (.cells #[.slice none 0 0, .slice none 0 0] 25)) := ⟨_, rfl⟩
  have hST := cp_start w p (pgC Ai n ci Al m cl)
  have hb0 := cp_bel w (pgC Ai n ci Al m cl)
  rw [← hW0] at hST
  rw [← hW0] at hb0
  have HE := Lib.hid hW0
  have hbx : W0.heap[w.heap.size]? = some (pgC Ai n ci Al m cl) := by
    rw [hW0]
    exact (heap_alloc_old _ _ (by simp; omega)).trans ((heap_alloc_old _ _ (by simp)).trans (heap_alloc_new _ _))
  have hb1 : W0.heap[w.heap.size + 1]? = some (.cells #[.slice none 0 0, .slice none 0 0] 25 (0, 0)) := by
    rw [hW0]
    exact (heap_alloc_old _ _ (by simp)).trans (by have := heap_alloc_new (w.alloc (pgC Ai n ci Al m cl)) (.cells #[.slice none 0 0, .slice none 0 0] 25); rw [show (w.alloc (pgC Ai n ci Al m cl)).heap.size = w.heap.size + 1 by simp] at this; exact this)
  have hsz0 : W0.heap.size = (w.heap.size + 1 + 1) + 1 := by rw [hW0]; simp
  have HS := Lib.hid hST
  have HH := Lib.hid (And.intro h (And.intro hB (And.intro hb0 (And.intro hbx hb1))))
  have hn := h.hn
  have hm := h.hm
  have hci := h.hci
  have hcl := h.hcl
  have hn7 : n ≤ 100 := by have := hB.n; omega
  have hm7 : m ≤ 100 := by have := hB.m; omega
  have HN := Lib.hid (And.intro hn hm)
  clear h hB hb0 hbx hb1 hST hW0 hn hm
  obtain ⟨i0, hi, hz0, hz1, hz2⟩ := info_parts infoIn
  have HI := Lib.hid (And.intro hi (And.intro hz0 (And.intro hz1 hz2)))
  clear hi hz0 hz1 hz2
  obtain ⟨i2, hi, hz0, hz1, hz2⟩ := info_parts infoS
  have HI2 := Lib.hid (And.intro hi (And.intro hz0 (And.intro hz1 hz2)))
  clear hi hz0 hz1 hz2
  go_enter Tryz.func11, Tryz.ntmps11
  go_wp2
  go_loopw [14] (fun i wr => ∃ (k : Nat) (xs : List NM) (vi : Value), k ≤ n ∧ i = .int .i64 k ∧ Hid (CN W0 (w.heap.size + 1 + 1) p k xs vi wr)) (fun i _ => n - (intOf i).toNat)
  case atStart =>
    rw [← HE.out]
    exact ⟨0, [], _, by omega, rfl, HS⟩
  case round =>
    obtain ⟨k, xs, vi, hk, rfl, HC⟩ := hrel
    rename World => wr
    by_cases hlt : k < n
    · obtain ⟨x, hx⟩ : ∃ x, x = p.ins.getD k default := ⟨_, rfl⟩
      have hkp : k < p.ins.length := by rw [HN.out.1]; exact hlt
      have hxb : x.sd.length * 24 ≤ 140737488351232 := HH.out.2.1.sd x (by rw [hx, List.getD_eq_getElem?_getD, List.getElem?_eq_getElem hkp]; exact List.getElem_mem hkp)
      obtain ⟨g, o, rfl, hg, hins⟩ := HH.out.1.pu.ins (by omega)
      have hxu := hins k hkp
      rw [← hx] at hxu
      have hbw : Below w.heap.size w wr := HH.out.2.2.1.trans (HC.out.bel.mono (by omega))
      have hgw : g < wr.heap.size := Nat.lt_of_lt_of_le hg hbw.size
      obtain ⟨a0, a1, As, cs, a2, hcs, hsu⟩ := hxu.below hbw hg
      have hxl := HC.out.len (Nat.le_of_lt hkp)
      obtain ⟨z, hz⟩ : ∃ z, z = x.sd.length := ⟨_, rfl⟩
      rw [← hz] at a2 hcs hxb
      have q1 := idxIn0 g o n ci k hlt
      have lPr := HC.out.ps.lt
      obtain ⟨W, hW⟩ : ∃ W, W = wr.alloc (.cells #[.string (bs x.nm), .int .i64 x.pl, .slice As z cs] 48) := ⟨_, rfl⟩
      have hWz : W.heap.size = wr.heap.size + 1 := by rw [hW]; simp
      have hWo : ∀ j, j < wr.heap.size → W.heap[j]? = wr.heap[j]? := fun j hj => by rw [hW]; exact heap_alloc_old _ _ hj
      have hWn : W.heap[wr.heap.size]? = some (.cells #[.string (bs x.nm), .int .i64 x.pl, .slice As z cs] 48 (0, 0)) := by rw [hW]; exact heap_alloc_new _ _
      have hWb : Below wr.heap.size wr W := by rw [hW]; exact (Below.refl _ _).alloc (Nat.le_refl _) _
      obtain ⟨A1, ct1, rfl, hct1⟩ := row_shape HC.out.ps.owi
      have hPb : W.heap[(w.heap.size + 1 + 1)]? = _ := (hWo (w.heap.size + 1 + 1) lPr).trans HC.out.ps.blk
      have cP : W.cell? ⟨(w.heap.size + 1 + 1), 0, none⟩ = some (.slice A1 xs.length ct1) := by rw [cell_of_row _ _ _ _ _ _ hPb]; rfl
      have fP : W.frozen? ⟨(w.heap.size + 1 + 1), 0, none⟩ = false := frozen_of_row _ _ _ _ _ hPb
      have s0 : W.cell? ⟨wr.heap.size, 0, none⟩ = some (.string (bs x.nm)) := by rw [cell_of_row _ _ _ _ _ _ hWn]; rfl
      have s2 : W.cell? ⟨wr.heap.size, 2, none⟩ = some (.slice As z cs) := by rw [cell_of_row _ _ _ _ _ _ hWn]; rfl
      have lP : (w.heap.size + 1 + 1) < W.heap.size := by omega
      have lJ : wr.heap.size < W.heap.size := by omega
      have HRW := Lib.hid (row_keep HC.out.ps.owi (fun j _ hl => hWo j hl) (Nat.le_refl _))
      have hnw : NewsAt W As z (x.sd.flatMap scell) := by rw [hz]; exact sides_news (hsu.below hWb)
      have hne : 0 < z → 0 < (x.sd.flatMap scell).length := fun h => by rw [scell_len, ← hz]; omega
      have HNW := Lib.hid (hnw.below hne ((Below.refl W.heap.size W).alloc (Nat.le_refl _) (.cells #[] 50)))
      have HSL := Lib.hid (show (x.sd.flatMap scell).length = z * 2 by rw [scell_len, ← hz])
      have HZ := Lib.hid (And.intro hz (And.intro hx hxl))
      have HWB := Lib.hid hWb
      have hz1 : z ≤ maxLen := by unfold maxLen; omega
      have hz2 : z * 24 ≤ 140737488355328 := by omega
      have hn1 : xs.length + 1 ≤ maxLen := by unfold maxLen; omega
      have hn2 : (xs.length + 1) * 48 ≤ 140737488355328 := by omega
      have nP : (Value.slice A1 xs.length ct1).ownBlock ≠ some (w.heap.size + 1 + 1) := fun h => by have := (row_base HC.out.ps.owi h).1; omega
      have hle : (w.heap.size + 1 + 1) + 1 ≤ W.heap.size := by omega
      have HW := Lib.hid hW
      have HWz := Lib.hid hWz
      clear hx hxu hins hbw hcs hsu hz hPb hWo hWn hWb hnw hne hW hxb hxl hWz
      go_wp2
      rw [← HW.out]
      clear a0 a1 a2 q1
      go_region_law (first
        | (refine step_append_gen0 (by rfl) _ _ 46 (by rfl) 50 i2 _ 2 24 Tryz.underlying46 HI2.out.1 HI2.out.2.1 HI2.out.2.2.1 HI2.out.2.2.2 rfl (by omega) W.heap.size (.slice (some ⟨W.heap.size, 0, none⟩) 0 0) (by rfl) (own_zero0 (w := (W.alloc (.cells #[] 50)).drew) (heap_alloc_new W (.cells #[] 50)) (Nat.le_refl _)) As z cs (x.sd.flatMap scell) (by rfl) HSL.out HNW.out (scell_one _) hz1 hz2 (by simp) ?_; intro A5 c5 w5 o5 b5 k5; have k5P := (k5 (w.heap.size + 1 + 1) (by simp; omega) (by simp [Value.ownBlock]; omega)).trans (heap_alloc_old W (.cells #[] 50) lP); have k5J := (k5 wr.heap.size (by simp; omega) (by simp [Value.ownBlock]; omega)).trans (heap_alloc_old W (.cells #[] 50) lJ); have y0 := (World.cell?_of_block (a := ⟨(w.heap.size + 1 + 1), 0, none⟩) k5P).trans cP; have y1 := (World.frozen?_of_block (a := ⟨(w.heap.size + 1 + 1), 0, none⟩) k5P).trans fP; have y2 := (World.cell?_of_block (a := ⟨wr.heap.size, 0, none⟩) k5J).trans s0; have o5i := Lib.hid (row_keep HRW.out (fun j _ hl => (k5 j (by simp; omega) (by simp [Value.ownBlock]; omega)).trans (heap_alloc_old W (.cells #[] 50) hl)) (Nat.le_refl _)); have z5 := b5.size; have z5 : W.heap.size + 1 ≤ w5.heap.size := (by simpa using z5); have l5P : (w.heap.size + 1 + 1) < w5.heap.size := (by omega); have l5J : wr.heap.size < w5.heap.size := (by omega); have H5 := Lib.hid (And.intro o5 (And.intro b5 k5)); clear k5P k5J o5 b5 k5 z5)
        | (refine step_append_lies _ (by rfl) _ _ _ (by rfl) ((w.heap.size + 1 + 1) + 1) 48 i0 _ 3 48 Tryz.underlying22 HI.out.1 HI.out.2.1 HI.out.2.2.1 HI.out.2.2.2 rfl (by omega) (.slice A1 xs.length ct1) xs.length (xs.flatMap NM.cells) (by rfl) (o5i.out.alloc _) ⟨w5.heap.size, 0, none⟩ 1 1 [.string (bs x.nm), .int .i64 7, .slice A5 z c5] (by rfl) (by rfl) (World.news_of_block (cs := #[.string (bs x.nm), .int .i64 7, .slice A5 z c5]) (t := 48) (fr := (0, 0)) (heap_alloc_new w5 _)) (in_cells _ _ _ rfl) (by omega) hn1 hn2 (by simp; omega) (w5.heap.size + 1) (by simp) ?_; intro q cap w6 hown6 hgrow6 hat6 hlt6; have k6P := ((hgrow6.block (w.heap.size + 1 + 1) (by simp; omega) (Ne.symm nP)).trans (heap_alloc_old w5 _ l5P)); have x0 := (World.cell?_of_block (a := ⟨(w.heap.size + 1 + 1), 0, none⟩) k6P).trans y0; have x1 := (World.frozen?_of_block (a := ⟨(w.heap.size + 1 + 1), 0, none⟩) k6P).trans y1; have l6P : (w.heap.size + 1 + 1) < w6.heap.size := (by have := hgrow6.size; simp at this; omega); clear k6P))
      all_goals
        have hA5 := row_shape H5.out.1
        obtain ⟨_, _, eA, hc5⟩ := hA5
        injection eA with eA1 eA2 eA3
        subst eA1 eA3
        have hmc : NM.cells ⟨⟨x.nm, 7, x.sd⟩, A5, c5⟩ = [.string (bs x.nm), .int .i64 7, .slice A5 z c5] := by unfold NM.cells; rw [HZ.out.1]
        have hr5 : RdS w5 A5 x.sd := sides_read (base := W.heap.size) (c := c5) (by rw [← HZ.out.1]; exact H5.out.1)
        have hb5 : Below wr.heap.size wr w5 := HWB.out.trans ((((Below.refl W.heap.size W).alloc (Nat.le_refl _) (.cells #[] 50)).trans (below_drew1 H5.out.2.1)).mono (by omega))
        have hadd := Lib.hid (in_add HC.out.ps ⟨⟨x.nm, 7, x.sd⟩, A5, c5⟩ hb5 hgrow6 (by rw [hmc]; exact hown6) hr5 (by rw [← HZ.out.1]; exact hc5))
        have hcp : (xs ++ [(⟨⟨x.nm, 7, x.sd⟩, A5, c5⟩ : NM)]).map (·.inp) = (p.ins.take (k + 1)).map cpN := by
          rw [take_map_one cpN (by rw [HN.out.1]; exact hlt), List.map_append, HC.out.cp, ← HZ.out.2.1]; rfl
        have HCP := Lib.hid hcp
        clear hmc hr5 hb5 hcp hgrow6 hown6 hat6 hc5
        go_wp2
        go_roundw
        case rel => exact ⟨k + 1, _, _, by omega, by go_num, Lib.hid ⟨hadd.out.1, HC.out.bel.trans hadd.out.2, HCP.out⟩⟩
        case measure => simp [intOf]; omega
    · obtain hkn : n = k := by omega
      subst hkn
      clear hlt
      have HL := Lib.hid (HC.out.lines HN.out.1.symm)
      clear HC
      have lW := HL.out.ps.lt
      have hbx := (HL.out.bel.block w.heap.size (by omega)).trans HH.out.2.2.2.1
      have b1 : wr.cell? ⟨w.heap.size, 1, none⟩ = some (.slice Al m cl) := by rw [cell_of_row _ _ _ _ _ _ hbx]; rfl
      have lb : w.heap.size < wr.heap.size := by omega
      clear hbx lW
      obtain ⟨i3, hi, hz0, hz1, hz2⟩ := info_parts infoN
      have HI3 := Lib.hid (And.intro hi (And.intro hz0 (And.intro hz1 hz2)))
      clear hi hz0 hz1 hz2
      obtain ⟨i4, hi, hz0, hz1, hz2⟩ := info_parts infoI
      have HI4 := Lib.hid (And.intro hi (And.intro hz0 (And.intro hz1 hz2)))
      clear hi hz0 hz1 hz2
      obtain ⟨i5, hi, hz0, hz1, hz2⟩ := info_parts infoL
      have HI5 := Lib.hid (And.intro hi (And.intro hz0 (And.intro hz1 hz2)))
      clear hi hz0 hz1 hz2
      go_wp2
      clear b1
      go_loopw [34] (fun i wy => ∃ (j : Nat) (ls : List LM) (vl : Value), j ≤ m ∧ i = .int .i64 j ∧ Hid (CL W0 (w.heap.size + 1 + 1) p j xs ls vi vl wy)) (fun i _ => m - (intOf i).toNat)
      case atStart => exact ⟨0, [], _, by omega, rfl, HL⟩
      case round =>
        clear HL lb
        obtain ⟨j, ls, vl, hj, rfl, HC⟩ := hrel
        rename World => wy
        by_cases hlt : j < m
        · obtain ⟨x, hx⟩ : ∃ x, x = p.lns.getD j default := ⟨_, rfl⟩
          have hkp : j < p.lns.length := by rw [HN.out.2]; exact hlt
          have hxm : x ∈ p.lns := by rw [hx, List.getD_eq_getElem?_getD, List.getElem?_eq_getElem hkp]; exact List.getElem_mem hkp
          have HXB := Lib.hid (And.intro (HH.out.2.1.its x hxm) (HH.out.2.1.ns x hxm))
          obtain ⟨g, o, rfl, hg, hlns⟩ := HH.out.1.pu.lns (by omega)
          have hxu := hlns j hkp
          rw [← hx] at hxu
          have hbw : Below w.heap.size w wy := HH.out.2.2.1.trans (HC.out.bel.mono (by omega))
          have hgw : g < wy.heap.size := Nat.lt_of_lt_of_le hg hbw.size
          obtain ⟨a0, a1, As, cs, a2, hcs, hiu⟩ := hxu.below hbw hg
          obtain ⟨z, hz⟩ : ∃ z, z = x.its.length := ⟨_, rfl⟩
          have hz7 : z ≤ 1000 := by rw [hz]; exact HXB.out.1
          rw [← hz] at a2 hcs
          have q1 := idxLn0 g o m cl j hlt
          have lPr := HC.out.ps.lt
          obtain ⟨W1, hW1⟩ : ∃ W1, W1 = (wy.alloc (.cells #[.string (bs x.nm), .int .i64 x.pl, .slice As z cs] 33)).alloc (.cells #[.string (bs x.nm), .int .i64 8, .slice none 0 0] 33) := ⟨_, rfl⟩
          have hb1 : Below wy.heap.size wy W1 := by rw [hW1]; exact ((Below.refl _ _).alloc (Nat.le_refl _) _).alloc (by simp) _
          have hLS : CI W1 (wy.heap.size + 1) x 0 [] (.slice none 0 0) W1 := by
            refine ⟨⟨?_, World.ownsRow_nil _ _ _ _, fun _ h => (by cases h)⟩, Below.refl _ _, rfl⟩
            rw [hW1]
            exact box2 wy _ _
          have HCI := Lib.hid hLS
          have hz1 : W1.heap.size = (wy.heap.size + 1) + 1 := by rw [hW1]; simp
          have HX := Lib.hid (And.intro hz (And.intro hx (And.intro hiu (And.intro hb1 hz1))))
          have HW1 := Lib.hid hW1
          have hLL : wy.heap.size < (wy.heap.size + 1) := by omega
          clear hz hx hxu hlns hbw hcs hiu hb1 hLS hz1 hxm hW1 hkp
          go_wp2_with fail
          rw [← HW1.out]
          go_loopw [44] (fun i wz => ∃ (k : Nat) (ms : List IM) (v : Value), k ≤ z ∧ i = .int .i64 k ∧ Hid (CI W1 (wy.heap.size + 1) x k ms v wz)) (fun i _ => z - (intOf i).toNat)
          case atStart => exact ⟨0, [], _, by omega, rfl, HCI⟩
          case round =>
            clear HCI a0 a1 a2
            obtain ⟨k, ms, v, hk, rfl, HD⟩ := hrel
            rename World => wz
            have hbz := HD.out.bel.size
            by_cases hlz : k < z
            · obtain ⟨it, hit⟩ : ∃ it, it = x.its.getD k default := ⟨_, rfl⟩
              have hkz : k < x.its.length := by rw [← HX.out.1]; exact hlz
              have him : it ∈ x.its := by rw [hit, List.getD_eq_getElem?_getD, List.getElem?_eq_getElem hkz]; exact List.getElem_mem hkz
              have hnn : it.ns.length ≤ 1000 := HXB.out.2 it him
              obtain ⟨b, ob, rfl, hbl, hits⟩ := HX.out.2.2.1 (by omega)
              have hi1 := hits k hkz
              rw [← hit] at hi1
              have hbyz : Below wy.heap.size wy wz := HX.out.2.2.2.1.trans (HD.out.bel.mono (by omega))
              obtain ⟨c0, c1, c2, c3, An, cn, c4, _, hnu⟩ := hi1.below hbyz hbl
              have hbw : b < wz.heap.size := Nat.lt_of_lt_of_le hbl hbyz.size
              obtain ⟨zn, hzn⟩ : ∃ zn, zn = it.ns.length := ⟨_, rfl⟩
              rw [← hzn] at c4 hnn
              have q2 := idxIt b ob z cs k hlz
              have hml := HD.out.len (Nat.le_of_lt hkz)
              obtain ⟨A4, ct4, rfl, hct4⟩ := row_shape HD.out.ls.own
              have hLb := HD.out.ls.blk
              have hlL := heap_lt hLb
              have nL : (Value.slice A4 ms.length ct4).ownBlock ≠ some (wy.heap.size + 1) := fun h => by have := (row_base HD.out.ls.own h).1; omega
              have hT2 : (wz.alloc (.cells #[.int .i64 it.how, .int .i64 9, .int .u8 it.fn, .string (bs it.nm), .slice An zn cn] 37)).heap[wz.heap.size]? = some (.cells #[.int .i64 it.how, .int .i64 9, .int .u8 it.fn, .string (bs it.nm), .slice An zn cn] 37 (0, 0)) := by
                exact heap_alloc_new wz _
              have hV2 : ∀ i, i < wz.heap.size → (wz.alloc (.cells #[.int .i64 it.how, .int .i64 9, .int .u8 it.fn, .string (bs it.nm), .slice An zn cn] 37)).heap[i]? = wz.heap[i]? := fun i hi => heap_alloc_old wz _ hi
              have hV2z : (wz.alloc (.cells #[.int .i64 it.how, .int .i64 9, .int .u8 it.fn, .string (bs it.nm), .slice An zn cn] 37)).heap.size = wz.heap.size + 1 := by simp
              have hV3T := (heap_alloc_old (wz.alloc (.cells #[.int .i64 it.how, .int .i64 9, .int .u8 it.fn, .string (bs it.nm), .slice An zn cn] 37)) (.cells #[] 2) (by rw [hV2z]; omega)).trans hT2
              have hV3 : ∀ i, i < wz.heap.size → ((wz.alloc (.cells #[.int .i64 it.how, .int .i64 9, .int .u8 it.fn, .string (bs it.nm), .slice An zn cn] 37)).alloc (.cells #[] 2)).heap[i]? = wz.heap[i]? := fun i hi => (heap_alloc_old (wz.alloc (.cells #[.int .i64 it.how, .int .i64 9, .int .u8 it.fn, .string (bs it.nm), .slice An zn cn] 37)) (.cells #[] 2) (by rw [hV2z]; omega)).trans (hV2 i hi)
              have hVb : Below wz.heap.size wz ((wz.alloc (.cells #[.int .i64 it.how, .int .i64 9, .int .u8 it.fn, .string (bs it.nm), .slice An zn cn] 37)).alloc (.cells #[] 2)) := ((Below.refl _ _).alloc (Nat.le_refl _) _).alloc (by rw [hV2z]; omega) _
              have hne : 0 < zn → 0 < (it.ns.map (Value.int .i64)).length := fun h => by rw [List.length_map, ← hzn]; exact h
              have HNW := Lib.hid (show NewsAt ((wz.alloc (.cells #[.int .i64 it.how, .int .i64 9, .int .u8 it.fn, .string (bs it.nm), .slice An zn cn] 37)).alloc (.cells #[] 2)) An zn (it.ns.map (Value.int .i64)) by
                have := nums_news (hnu.below hVb)
                rw [← hzn] at this; exact this)
              have HNL := Lib.hid (show (it.ns.map (Value.int .i64)).length = zn * 1 by rw [List.length_map, ← hzn, Nat.mul_one])
              have HVV := Lib.hid (And.intro hV3T (And.intro hV3 (And.intro hVb hV2z)))
              have hOZ := Lib.hid (own_zero0 (B := wz.heap.size + 1) (size := 1) (w := (wz.alloc (.cells #[.int .i64 it.how, .int .i64 9, .int .u8 it.fn, .string (bs it.nm), .slice An zn cn] 37)).alloc (.cells #[] 2)) (g := wz.heap.size + 1) (e := 2) (by have := heap_alloc_new (wz.alloc (.cells #[.int .i64 it.how, .int .i64 9, .int .u8 it.fn, .string (bs it.nm), .slice An zn cn] 37)) (.cells #[] 2); rw [hV2z] at this; exact this) (Nat.le_refl _))
              have HIT := Lib.hid (And.intro hzn (And.intro hit hml))
              have hz1 : zn ≤ maxLen := by unfold maxLen; omega
              have hz2 : zn * 8 ≤ 140737488355328 := by omega
              have hn1 : ms.length + 1 ≤ maxLen := by unfold maxLen; omega
              have hn2 : (ms.length + 1) * 64 ≤ 140737488355328 := by omega
              have hle : wz.heap.size + 1 ≤ ((wz.alloc (.cells #[.int .i64 it.how, .int .i64 9, .int .u8 it.fn, .string (bs it.nm), .slice An zn cn] 37)).alloc (.cells #[] 2)).heap.size := by rw [show ((wz.alloc (.cells #[.int .i64 it.how, .int .i64 9, .int .u8 it.fn, .string (bs it.nm), .slice An zn cn] 37)).alloc (.cells #[] 2)).heap.size = (wz.alloc (.cells #[.int .i64 it.how, .int .i64 9, .int .u8 it.fn, .string (bs it.nm), .slice An zn cn] 37)).heap.size + 1 by simp, hV2z]; omega
              have HLE := Lib.hid hle
              have HRW := Lib.hid (And.intro HD.out.ls.own hLb)
              clear hi1 hits hit him hnu hzn hml hT2 hV2 hV3T hV3 hVb hne hle hLb hkz hV2z hbyz
              go_wp2_with (first
                | (at_builtin; refine wpList_append_gen0 rfl (.tmp 49) (.tmp 51) 35 rfl 2 i3 _ 1 8 Tryz.underlying35 HI3.out.1 HI3.out.2.1 HI3.out.2.2.1 HI3.out.2.2.2 rfl (by omega) (wz.heap.size + 1) (.slice (some ⟨wz.heap.size + 1, 0, none⟩) 0 0) rfl hOZ.out An zn cn (it.ns.map (Value.int .i64)) rfl HNL.out HNW.out ints_one5 hz1 hz2 HLE.out ?_; intro A5 c5 w5 o5 b5 k5; have kT := (k5 wz.heap.size (by have := HLE.out; omega) (by simp [Value.ownBlock])).trans HVV.out.1; have kL := (k5 (wy.heap.size + 1) (by have := HLE.out; omega) (by simp [Value.ownBlock]; omega)).trans ((HVV.out.2.1 (wy.heap.size + 1) hlL).trans HRW.out.2); have t0 : w5.cell? ⟨wz.heap.size, 0, none⟩ = some (.int .i64 it.how) := (by rw [cell_of_row _ _ _ _ _ _ kT]; rfl); have t1 : w5.cell? ⟨wz.heap.size, 1, none⟩ = some (.int .i64 9) := (by rw [cell_of_row _ _ _ _ _ _ kT]; rfl); have t2 : w5.cell? ⟨wz.heap.size, 2, none⟩ = some (.int .u8 it.fn) := (by rw [cell_of_row _ _ _ _ _ _ kT]; rfl); have t3 : w5.cell? ⟨wz.heap.size, 3, none⟩ = some (.string (bs it.nm)) := (by rw [cell_of_row _ _ _ _ _ _ kT]; rfl); have t4 : w5.cell? ⟨wz.heap.size, 4, none⟩ = some (.slice An zn cn) := (by rw [cell_of_row _ _ _ _ _ _ kT]; rfl); have tf : w5.frozen? ⟨wz.heap.size, 4, none⟩ = false := frozen_of_row _ _ _ _ _ kT; have y2 : w5.cell? ⟨(wy.heap.size + 1), 2, none⟩ = some (.slice A4 ms.length ct4) := (by rw [cell_of_row _ _ _ _ _ _ kL]; rfl); have yf : w5.frozen? ⟨(wy.heap.size + 1), 2, none⟩ = false := frozen_of_row _ _ _ _ _ kL; have l5 := Nat.le_trans HLE.out b5.size; have l5T : wz.heap.size < w5.heap.size := (by omega); have l5L : (wy.heap.size + 1) < w5.heap.size := (by omega); have H5 := Lib.hid (And.intro o5 (And.intro b5 (And.intro k5 (And.intro kT kL)))); clear o5 b5 k5 kT kL l5)
                | (at_builtin; refine wpList_append_lies _ rfl (.tmp 55) (.tmp 57) _ rfl ((wy.heap.size + 1) + 1) 37 i4 _ 5 64 Tryz.underlying31 HI4.out.1 HI4.out.2.1 HI4.out.2.2.1 HI4.out.2.2.2 rfl (by omega) (.slice A4 ms.length ct4) ms.length (ms.flatMap IM.cells) rfl (own_on HRW.out.1 HVV.out.2.1 H5.out.2.2.1 HLE.out _ _) ⟨w5.heap.size, 0, none⟩ 1 1 [.int .i64 it.how, .int .i64 9, .int .u8 it.fn, .string (bs it.nm), .slice A5 zn c5] rfl rfl (newsN _ _ (by simp) #[.int .i64 it.how, .int .i64 9, .int .u8 it.fn, .string (bs it.nm), .slice A5 zn c5] _) (it_one5 _ _ _ _ _) (by omega) hn1 hn2 (by simp; omega) (w5.heap.size + 1) (by simp) ?_; intro q cap w8 hown8 hgrow8 hat8 hlt8; have k8 := ((hgrow8.block (wy.heap.size + 1) (by simp; omega) (Ne.symm nL)).trans ((heap_alloc_old _ _ (by simpa using l5L)).trans ((Fr.set.heap_set_other (by omega)).trans H5.out.2.2.2.2))); have y8 : w8.cell? ⟨(wy.heap.size + 1), 2, none⟩ = some (.slice A4 ms.length ct4) := (by rw [cell_of_row _ _ _ _ _ _ k8]; rfl); have yf8 : w8.frozen? ⟨(wy.heap.size + 1), 2, none⟩ = false := frozen_of_row _ _ _ _ _ k8; have l8 := heap_lt k8; clear k8))
              have hr5 : RdN w5 (fun j => j < w5.heap.size) A5 it.ns := nums_own H5.out.1 HIT.out.1.symm
              have hr6 : RdN (w5.setCell ⟨wz.heap.size, 4, none⟩ (.slice A5 zn c5)) (fun j => j < (w5.setCell ⟨wz.heap.size, 4, none⟩ (.slice A5 zn c5)).heap.size) A5 it.ns := hr5.grow (by simp) fun b cs fr e => Fr.set.heap_set_other (by
                rintro rfl
                have := H5.out.2.2.2.1
                rw [e] at this
                simp at this)
              have hb6 : Below wz.heap.size wz (w5.setCell ⟨wz.heap.size, 4, none⟩ (.slice A5 zn c5)) := (HVV.out.2.2.1.trans (H5.out.2.1.mono (by omega))).setCell (p := ⟨wz.heap.size, 4, none⟩) (Nat.le_refl _) _
              have hmc : IM.cells ⟨cpI it, A5, c5⟩ = [.int .i64 it.how, .int .i64 9, .int .u8 it.fn, .string (bs it.nm), .slice A5 zn c5] := by unfold IM.cells; rw [HIT.out.1]; rfl
              have hadd := Lib.hid (it_add HD.out.ls ⟨cpI it, A5, c5⟩ hb6 hgrow8 (by rw [hmc]; exact hown8) hr6)
              have hcp : (ms ++ [(⟨cpI it, A5, c5⟩ : IM)]).map (·.it) = (x.its.take (k + 1)).map cpI := by
                rw [take_map_one cpI (by rw [← HX.out.1]; exact hlz), List.map_append, HD.out.cp, ← HIT.out.2.1]; rfl
              have HCP := Lib.hid hcp
              clear hr5 hr6 hb6 hmc hcp hgrow8 hown8 hat8
              go_wp2
              go_roundw
              case rel => exact ⟨k + 1, _, _, by omega, by go_num, Lib.hid ⟨hadd.out.1, HD.out.bel.trans hadd.out.2, HCP.out⟩⟩
              case measure => simp [intOf]; omega
            · obtain hkz : z = k := by omega
              subst hkz
              clear hlz
              have hPS := HC.out.ps.keep (HX.out.2.2.2.1.trans (HD.out.bel.mono (by omega)))
              have hbyz : Below (w.heap.size + 1 + 1) wy wz := (HX.out.2.2.2.1.mono (by omega)).trans (HD.out.bel.mono (by omega))
              have hml := HD.out.len (Nat.le_of_eq HX.out.1)
              obtain ⟨A4, ct4, rfl, hct4⟩ := row_shape HD.out.ls.own
              obtain ⟨A3, ct3, rfl, hct3⟩ := row_shape HC.out.ps.owl
              have hLb := HD.out.ls.blk
              have l0 : wz.cell? ⟨wy.heap.size + 1, 0, none⟩ = some (.string (bs x.nm)) := by rw [cell_of_row _ _ _ _ _ _ hLb]; rfl
              have l1 : wz.cell? ⟨wy.heap.size + 1, 1, none⟩ = some (.int .i64 8) := by rw [cell_of_row _ _ _ _ _ _ hLb]; rfl
              have l2 : wz.cell? ⟨wy.heap.size + 1, 2, none⟩ = some (.slice A4 ms.length ct4) := by rw [cell_of_row _ _ _ _ _ _ hLb]; rfl
              have lL := heap_lt hLb
              have y1 : wz.cell? ⟨w.heap.size + 1 + 1, 1, none⟩ = some (.slice A3 ls.length ct3) := by rw [cell_of_row _ _ _ _ _ _ hPS.blk]; rfl
              have yf : wz.frozen? ⟨w.heap.size + 1 + 1, 1, none⟩ = false := frozen_of_row _ _ _ _ _ hPS.blk
              have lP := hPS.lt
              have nP : (Value.slice A3 ls.length ct3).ownBlock ≠ some (w.heap.size + 1 + 1) := fun h => by have := (row_base hPS.owl h).1; omega
              have hll := HC.out.len (by rw [HN.out.2]; exact hj)
              have hn1 : ls.length + 1 ≤ maxLen := by unfold maxLen; omega
              have hn2 : (ls.length + 1) * 48 ≤ 140737488355328 := by omega
              have hle : w.heap.size + 1 + 1 + 1 ≤ wz.heap.size := by omega
              have HPS := Lib.hid (And.intro hPS (And.intro hbyz (And.intro hml hll)))
              clear hPS hbyz hml hll hLb
              go_wp2_with (at_builtin; refine wpList_append_lies _ rfl (.tmp 62) (.tmp 64) _ rfl (w.heap.size + 1 + 1 + 1) 33 i5 _ 3 48 Tryz.underlying23 HI5.out.1 HI5.out.2.1 HI5.out.2.2.1 HI5.out.2.2.2 rfl (by omega) (.slice A3 ls.length ct3) ls.length (ls.flatMap LM.cells) rfl (HPS.out.1.owl.alloc _) ⟨wz.heap.size, 0, none⟩ 1 1 [.string (bs x.nm), .int .i64 8, .slice A4 ms.length ct4] rfl rfl (newsN _ _ rfl #[.string (bs x.nm), .int .i64 8, .slice A4 ms.length ct4] _) (in_cells _ _ _ rfl) (by omega) hn1 hn2 (by simp; omega) (wz.heap.size + 1) (by simp) ?_; intro q cap w8 hown8 hgrow8 hat8 hlt8; have k8 := ((hgrow8.block (w.heap.size + 1 + 1) (by simp; omega) (Ne.symm nP)).trans (heap_alloc_old wz _ lP)).trans HPS.out.1.blk; have y8 : w8.cell? ⟨w.heap.size + 1 + 1, 1, none⟩ = some (.slice A3 ls.length ct3) := (by rw [cell_of_row _ _ _ _ _ _ k8]; rfl); have yf8 : w8.frozen? ⟨w.heap.size + 1 + 1, 1, none⟩ = false := frozen_of_row _ _ _ _ _ k8; have l8 := heap_lt k8; clear k8)
              have hits : ms.map (·.it) = (cpL x).its := by rw [HD.out.cp, HX.out.1, List.take_length]; rfl
              have hlen : (cpL x).its.length = ms.length := by rw [← hits, List.length_map]
              have hr : RdIt wz A4 (cpL x).its := by rw [← hits]; exact row_items HD.out.ls.own rfl HD.out.ls.num
              have hmc : LM.cells ⟨cpL x, A4, ct4⟩ = [.string (bs x.nm), .int .i64 8, .slice A4 ms.length ct4] := by unfold LM.cells; rw [hlen]; rfl
              have hadd := Lib.hid (ln_add HPS.out.1 ⟨cpL x, A4, ct4⟩ (Below.refl _ _) hgrow8 (by rw [hmc]; exact hown8) hr (by rw [hlen]; exact hct4))
              have hcp : (ls ++ [(⟨cpL x, A4, ct4⟩ : LM)]).map (·.ln) = (p.lns.take (j + 1)).map cpL := by
                rw [take_map_one cpL (by rw [HN.out.2]; exact hlt), List.map_append, HC.out.cp, ← HX.out.2.1]; rfl
              have HCP := Lib.hid hcp
              clear hits hlen hr hmc hcp hgrow8 hown8 hat8
              go_wp2
              go_roundw
              case rel => exact ⟨j + 1, _, _, by omega, by go_num, Lib.hid ⟨hadd.out.1, (HC.out.bel.trans HPS.out.2.1).trans hadd.out.2, HC.out.cpn, HCP.out⟩⟩
              case measure => simp [intOf]; omega
        · obtain hjm : m = j := by omega
          subst hjm
          clear hlt
          have hxl : xs.length = n := by
            have := congrArg List.length HC.out.cpn
            rw [List.length_map, List.length_map, HN.out.1] at this; exact this
          have hll := HC.out.len (Nat.le_of_eq HN.out.2.symm)
          subst hxl
          subst hll
          obtain ⟨A1, ct1, rfl, hct1⟩ := row_shape HC.out.ps.owi
          obtain ⟨A3, ct3, rfl, hct3⟩ := row_shape HC.out.ps.owl
          have hPb := HC.out.ps.blk
          have y0 : wy.cell? ⟨w.heap.size + 1 + 1, 0, none⟩ = some (.slice A1 xs.length ct1) := by rw [cell_of_row _ _ _ _ _ _ hPb]; rfl
          have y1 : wy.cell? ⟨w.heap.size + 1 + 1, 1, none⟩ = some (.slice A3 ls.length ct3) := by rw [cell_of_row _ _ _ _ _ _ hPb]; rfl
          have hRb : wy.heap[w.heap.size + 1]? = some (.cells #[.slice none 0 0, .slice none 0 0] 25 (0, 0)) := (HC.out.bel.block _ (by omega)).trans HH.out.2.2.2.2
          have r0 : wy.cell? ⟨w.heap.size + 1, 0, none⟩ = some (.slice none 0 0) := by rw [cell_of_row _ _ _ _ _ _ hRb]; rfl
          have r1 : wy.cell? ⟨w.heap.size + 1, 1, none⟩ = some (.slice none 0 0) := by rw [cell_of_row _ _ _ _ _ _ hRb]; rfl
          have rf0 : wy.frozen? ⟨w.heap.size + 1, 0, none⟩ = false := frozen_of_row _ _ _ _ _ hRb
          have rf1 : wy.frozen? ⟨w.heap.size + 1, 1, none⟩ = false := frozen_of_row _ _ _ _ _ hRb
          have lR := heap_lt hRb
          have lP := HC.out.ps.lt
          have HRB := Lib.hid hRb
          clear hPb hRb
          go_wp2
          refine bodyPost_ret (v := pgV A1 xs.length ct1 A3 ls.length ct3) (R := cpRes w p) (by simp [results, Tryz.results11, go_sem, r0, r1, lR]) rfl ?_
          have hF : Fr (fun k => k = w.heap.size + 1) wy ((wy.setCell ⟨w.heap.size + 1, 0, none⟩ (.slice A1 xs.length ct1)).setCell ⟨w.heap.size + 1, 1, none⟩ (.slice A3 ls.length ct3)) := ((Fr.refl (fun k => k = w.heap.size + 1) wy).set (b := w.heap.size + 1) (.inl rfl) 0 _).set (b := w.heap.size + 1) (.inl rfl) 1 _
          have hpv := HC.out.ps.out1 (B := w.heap.size) (by omega) hF (by omega) HRB.out
          have hpr := PU.of hpv.read
          have hpg : pgOf xs ls = cpP p := by
            unfold pgOf cpP
            rw [HC.out.cpn, HC.out.cp, List.take_of_length_le (by rw [HN.out.2]; exact Nat.le_refl _)]
          rw [hpg] at hpr
          refine ⟨A1, ct1, A3, ct3, by rw [HN.out.1, HN.out.2], ((HH.out.2.2.1.trans (HC.out.bel.mono (by omega))).setCell (p := ⟨w.heap.size + 1, 0, none⟩) (Nat.le_succ _) _).setCell (p := ⟨w.heap.size + 1, 1, none⟩) (Nat.le_succ _) _, ?_⟩
          rw [HN.out.1, HN.out.2]
          exact ⟨by unfold cpP; simpa using HN.out.1, by unfold cpP; simpa using HN.out.2, hpr, cpP_b HH.out.1.pb, by omega, by omega, by omega⟩
end Go.Proofs.YtbapgdhcbfpdoaaGreatDoor
