/- The walk of ParseFlat. -/
import Derived.Deep.RegionHeld3
import Derived.Test.YthdognmppbckbaaDoorZPh
namespace Go.Proofs.YthdognmppbckbaaDoor.parseFlat
open Go.RowKit
set_option linter.unusedVariables false
theorem hidTrans {V w w' : World} (h : Hid (Below V.heap.size V w)) (g : Below w.heap.size w w') : Hid (Below V.heap.size V w') := h.out.trans (g.mono h.out.size)
theorem rdItH {V w : World} {A : Option Addr} {l : List It} (h : RdIt V A l) (g : Hid (Below V.heap.size V w)) : RdIt w A l := rdIt_below h g.out
theorem laidH {V w : World} (h : LaidP V) (g : Hid (Below V.heap.size V w)) : LaidP w := h.below g.out
theorem hidDrew {V w : World} (h : Hid (Below V.heap.size V w)) (n : Nat) : Hid (Below V.heap.size V (w.drewN n)) := below_drewN h.out h.out.size
theorem idxLn (b len c k : Nat) (h1 : k < len) (w : World) : (Instr.indexAt 24 (.slice (some ⟨b, 0, none⟩) len c) (.int .i64 (k : Int))).run Tryd.prog w = .ok (.pointer (some ⟨b, k * 3, none⟩)) w := by
  have e := WideShapes.add_plain b 0 (k * 3)
  have h0 : (0 : Int) ≤ (k : Int) ∧ (k : Int) < (len : Int) := by omega
  go_simp
theorem idxIn (b len c k : Nat) (h1 : k < len) (w : World) : (Instr.indexAt 23 (.slice (some ⟨b, 0, none⟩) len c) (.int .i64 (k : Int))).run Tryd.prog w = .ok (.pointer (some ⟨b, k * 3, none⟩)) w := by
  have e := WideShapes.add_plain b 0 (k * 3)
  have h0 : (0 : Int) ≤ (k : Int) ∧ (k : Int) < (len : Int) := by omega
  go_simp

set_option maxRecDepth 100000 in
set_option maxHeartbeats 3200000 in
theorem walk_bad (s : ByteArray) (hs : s.size ≤ 140737488355320) (w : World) (hL : LaidP w) (a c : Int) (h : parseR s.data.toList = .err a c) : Calls Tryd.prog 5 #[.string s] w fun e w' => e = .returned (.bool true) ∧ Below w.heap.size w w' := by
  have hx := Lib.hid h
  have hc0 : (c == 0) = false := by have := (pz_err h).2; simp; omega
  clear h
  go_enter Tryd.func5, Tryd.ntmps5
  go_wp2_with fail
  refine (shown4_any _ hL).mono ?_
  rintro e W1 ⟨rfl, b1⟩
  have B := Lib.hid b1
  clear b1
  go_wp2_with fail
  refine (parse_no s _ a c hx.out (hL.below B.out) (by omega)).mono ?_
  rintro e W2 ⟨Ai2, ci2, Al2, cl2, rfl, b2⟩
  have hu := up2 b2 (pfw_bel W2 Ai2 0 ci2 Al2 0 cl2 a c)
  obtain ⟨f3, f4, f0, f1, f2⟩ := PFAt.new W2 Ai2 0 ci2 Al2 0 cl2 a c
  have B3 := Lib.hid (up2 B.out hu)
  unfold pfW at f0 f1 f2 f3 f4
  clear hu b2
  go_wp2
  go_ret
  exact ⟨rfl, B3.out⟩

set_option maxRecDepth 100000 in
set_option maxHeartbeats 3200000 in
theorem walk_ok (s : ByteArray) (hs : s.size ≤ 140737488355320) (w : World) (hL : LaidP w) (p : Pg) (h : parseR s.data.toList = .ok p) : Calls Tryd.prog 5 #[.string s] w fun e w' => e = .returned (.bool true) ∧ Below w.heap.size w w' := by
  have hx := Lib.hid h
  obtain ⟨hok, hcm⟩ := pz_flat h
  have hbd := pz_bd h
  obtain ⟨N, hN⟩ : ∃ N, N = p.ins.length := ⟨_, rfl⟩
  obtain ⟨M, hM⟩ : ∃ M, M = p.lns.length := ⟨_, rfl⟩
  have hcnt : N + M ≤ 64 := by rw [hN, hM]; exact hok.cnt
  obtain ⟨hM0, hlast⟩ := (compl_iff p).1 hcm
  have hM1 : 0 < M := by omega
  have HP := Lib.hid (And.intro hok (And.intro hbd (And.intro hN.symm hM.symm)))
  have HLT := Lib.hid (show (p.lns.getD (p.lns.length - 1) default).nm = [] by rw [List.getD_eq_getElem?_getD, List.getElem?_eq_getElem (by omega)]; exact hlast)
  clear h hok hcm hbd hlast hN hM hM0
  go_enter Tryd.func5, Tryd.ntmps5
  go_wp2_with fail
  refine (shown4_any _ hL).mono ?_
  rintro e W1 ⟨rfl, b1⟩
  have B := Lib.hid b1
  clear b1
  go_wp2_with fail
  refine (parse_is s _ p N M hx.out HP.out.2.2.1 HP.out.2.2.2 (hL.below B.out) (by omega)).mono ?_
  rintro e W2 ⟨Ai2, ci2, Al2, cl2, rfl, hr, b2, _, _⟩
  have hu := up2 b2 (pfw_bel W2 Ai2 N ci2 Al2 M cl2 0 0)
  obtain ⟨f3, f4, f0, f1, f2⟩ := PFAt.new W2 Ai2 N ci2 Al2 M cl2 0 0
  have B3 := Lib.hid (up2 B.out hu)
  obtain ⟨g, rfl, hg, hl⟩ := (hr.below (pfw_bel W2 Ai2 N ci2 Al2 M cl2 0 0)).lns (by rw [HP.out.2.2.2]; exact hM1)
  have HI := Lib.hid ((hr.below (pfw_bel W2 Ai2 N ci2 (some ⟨g, 0, none⟩) M cl2 0 0)).ins)
  have HLL := Lib.hid (And.intro hg hl)
  have HL0 := Lib.hid (hL.below B3.out)
  clear hu b2 hr hg hl
  obtain ⟨V, hV⟩ : ∃ V, V = pfW W2 Ai2 N ci2 (some ⟨g, 0, none⟩) M cl2 0 0 := ⟨_, rfl⟩
  have hE : (W2.alloc (.cells #[.slice Ai2 N ci2, .slice (some ⟨g, 0, none⟩) M cl2] 26)).alloc (.cells #[.int .i64 0, .int .i64 0] 29) = V := hV.symm
  rw [← hV] at B3 HI HLL HL0 f0 f1 f2 f3 f4
  have F := Lib.hid (And.intro f0 (And.intro f1 (And.intro f3 (And.intro f4 f2))))
  rw [hV] at f0 f1 f2 f3 f4
  unfold pfW at f0 f1 f2 f3 f4
  have HVs := Lib.hid hV
  have HE := Lib.hid hE
  clear hV hE
  go_wp2
  clear f0 f1 f2 f3 f4
  rw [HE.out]
  go_loopw [33] (fun i wr => ∃ k : Nat, k ≤ M ∧ i = .int .i64 k ∧ Hid (Below V.heap.size V wr)) (fun i _ => M - (intOf i).toNat)
  case atStart => exact ⟨0, by omega, rfl, Below.refl _ _⟩
  case round =>
    obtain ⟨k, hk, rfl, HB⟩ := hrel
    have lv0 : W2.heap.size < V.heap.size := by have := F.out.2.2.2.2; omega
    have f4 := (cell_below HB.out lv0 1).trans F.out.2.2.2.1
    have f3 := (cell_below HB.out lv0 0).trans F.out.2.2.1
    by_cases hlt : k < M
    · obtain ⟨x, hx'⟩ : ∃ x, x = p.lns.getD k default := ⟨_, rfl⟩
      have hkl : k < p.lns.length := by rw [HP.out.2.2.2]; exact hlt
      have hxe : x = p.lns[k] := by rw [hx', List.getD_eq_getElem?_getD, List.getElem?_eq_getElem hkl]; rfl
      have hits := HP.out.1.its x (by rw [hxe]; exact List.getElem_mem hkl)
      have hbds := HP.out.2.1.its x (by rw [hxe]; exact List.getElem_mem hkl)
      obtain ⟨n, hn⟩ : ∃ n, n = x.its.length := ⟨_, rfl⟩
      have hnm : nameB x.nm = decide ((k : Int) < (M : Int) - 1) := by
        by_cases hlast : k + 1 = M
        · have hd : decide ((k : Int) < (M : Int) - 1) = false := by simp; omega
          have h2 := HLT.out
          have e : p.lns.getD (p.lns.length - 1) default = x := by rw [hx']; congr 1; have := HP.out.2.2.2; omega
          rw [e] at h2
          rw [hd, h2]; rfl
        · have hd : decide ((k : Int) < (M : Int) - 1) = true := by simp; omega
          rcases HP.out.1.nms k hkl with h2 | ⟨_, h2⟩
          · rw [hd, hxe]; exact h2
          · have := HP.out.2.2.2; omega
      obtain ⟨x0, _, A, c, x2, _, x3⟩ := HLL.out.2 k hkl
      rw [← hx'] at x0 x2 x3
      rw [← hn] at x2
      have hname := fun W hP => name_any (bs x.nm) W hP (by rw [bs_size]; have := hbds.1; omega)
      rw [bs_list, hnm] at hname
      have lg := HLL.out.1
      have KS : ∀ w' : World, Hid (Below V.heap.size V w') → w'.cell? ⟨W2.heap.size, 1, none⟩ = some (.slice (some ⟨g, 0, none⟩) M cl2) ∧ w'.cell? ⟨g, k * 3 + 2, none⟩ = some (.slice A n c) ∧ w'.cell? ⟨g, k * 3, none⟩ = some (.string (bs x.nm)) ∧ Hid (Below V.heap.size V w') :=
        fun w' h => ⟨(cell_below h.out lv0 1).trans F.out.2.2.2.1, (cell_below h.out lg _).trans x2, (cell_below h.out lg _).trans x0, h⟩
      have hflat := fun W hP => flat_any A x.its n c W hn.symm hP hits.1 hits.2 (fun y hy => ⟨Nat.le_trans (hbds.2.2 y hy).1 (by decide), (hbds.2.2 y hy).2⟩) (by have := hbds.2.1; omega)
      have HF := Lib.hid hflat
      have HRI := Lib.hid x3
      have q1 := idxLn g M cl2 k hlt
      clear hits hbds hx' hxe hnm x0 x2 x3 lg hflat hn hkl
      cases hdd : decide ((k : Int) < (M : Int) - 1) with
      | true =>
        rw [hdd] at hname
        have HNM := Lib.hid hname
        clear hname
        have hwr : IntKind.i64.wrap ((M : Int) - 1) = (M : Int) - 1 := Go.IntWalk.i64_in _ (by omega)
        go_wp2
        go_region_held3 (fun w' => w'.cell? ⟨W2.heap.size, 1, none⟩ = some (.slice (some ⟨g, 0, none⟩) M cl2) ∧ w'.cell? ⟨g, k * 3 + 2, none⟩ = some (.slice A n c) ∧ w'.cell? ⟨g, k * 3, none⟩ = some (.string (bs x.nm)) ∧ Hid (Below V.heap.size V w'))
          (first | (exact KS _ (by first | assumption | exact hidDrew (by assumption) _)) | go_keep)
          (first | (go_at_call 19; refine (HF.out _ (rdItH HRI.out (by simp [*]))).mono ?_; rintro e w5 ⟨rfl, g5⟩; have k5 : Hid (Below V.heap.size V w5) := hidTrans (by simp [*]) g5; clear g5) | (go_at_call 17; refine (HNM.out _ (laidH HL0.out (by simp [*]))).mono ?_; rintro e w6 ⟨rfl, g6⟩; have k6 : Hid (Below V.heap.size V w6) := hidTrans (by simp [*]) g6; clear g6))
        clear f4 f3 q1 KS
        go_wp2
        go_roundw
        case rel => exact ⟨k + 1, by omega, by go_num, k6⟩
        case measure => simp [intOf]; omega
      | false =>
        rw [hdd] at hname
        have HNM := Lib.hid hname
        clear hname
        have hwr : IntKind.i64.wrap ((M : Int) - 1) = (M : Int) - 1 := Go.IntWalk.i64_in _ (by omega)
        go_wp2
        go_region_held3 (fun w' => w'.cell? ⟨W2.heap.size, 1, none⟩ = some (.slice (some ⟨g, 0, none⟩) M cl2) ∧ w'.cell? ⟨g, k * 3 + 2, none⟩ = some (.slice A n c) ∧ w'.cell? ⟨g, k * 3, none⟩ = some (.string (bs x.nm)) ∧ Hid (Below V.heap.size V w'))
          (first | (exact KS _ (by first | assumption | exact hidDrew (by assumption) _)) | go_keep)
          (first | (go_at_call 19; refine (HF.out _ (rdItH HRI.out (by simp [*]))).mono ?_; rintro e w5 ⟨rfl, g5⟩; have k5 : Hid (Below V.heap.size V w5) := hidTrans (by simp [*]) g5; clear g5) | (go_at_call 17; refine (HNM.out _ (laidH HL0.out (by simp [*]))).mono ?_; rintro e w6 ⟨rfl, g6⟩; have k6 : Hid (Below V.heap.size V w6) := hidTrans (by simp [*]) g6; clear g6))
        clear f4 f3 q1 KS
        go_wp2
        go_roundw
        case rel => exact ⟨k + 1, by omega, by go_num, k6⟩
        case measure => simp [intOf]; omega
    · obtain hkM : M = k := by omega
      subst hkM
      go_wp2
      clear f4 f3
      rename World => wo
      go_loopw [64] (fun i wr => ∃ j : Nat, j ≤ N ∧ i = .int .i64 j ∧ Hid (Below V.heap.size V wr)) (fun i _ => N - (intOf i).toNat)
      case atStart => exact ⟨0, by omega, rfl, HB.out⟩
      case round =>
        obtain ⟨j, hj, rfl, HB2⟩ := hrel
        have f4 := (cell_below HB2.out lv0 1).trans F.out.2.2.2.1
        have f3 := (cell_below HB2.out lv0 0).trans F.out.2.2.1
        by_cases hjl : j < N
        · obtain ⟨x, hx'⟩ : ∃ x, x = p.ins.getD j default := ⟨_, rfl⟩
          have hjn : j < p.ins.length := by rw [HP.out.2.2.1]; exact hjl
          have hxe : x = p.ins[j] := by rw [hx', List.getD_eq_getElem?_getD, List.getElem?_eq_getElem hjn]; rfl
          have hins := HP.out.1.ins x (by rw [hxe]; exact List.getElem_mem hjn)
          have hbi := HP.out.2.1.ins x (by rw [hxe]; exact List.getElem_mem hjn)
          obtain ⟨g2, rfl, hg2, hl2⟩ := HI.out (by omega)
          obtain ⟨x0, _, A, c, x2, _, _⟩ := hl2 j hjn
          rw [← hx'] at x0 x2
          have hname := fun W hP => name_any (bs x.nm) W hP (by rw [bs_size]; have := hbi.1; omega)
          rw [bs_list, hins.1] at hname
          have HNM := Lib.hid hname
          obtain ⟨n, hn⟩ : ∃ n, n = x.sd.length := ⟨_, rfl⟩
          rw [← hn] at x2
          have hn4 : ¬ (4 : Int) < (n : Int) := by have := hins.2; omega
          have HX2 := Lib.hid (And.intro hg2 (And.intro x0 x2))
          have q1 := idxIn g2 N ci2 j hjl
          have y0 := (cell_below HB2.out hg2 (j * 3)).trans x0
          have y2 := (cell_below HB2.out hg2 (j * 3 + 2)).trans x2
          clear hins hbi hx' hxe hname x0 x2 hl2 hg2 hn hjn
          go_wp2_with (go_at_call 17; refine (HNM.out _ (laidH HL0.out HB2)).mono ?_; rintro e w6 ⟨rfl, g6⟩; have k6 := hidTrans HB2 g6; have f3' := (cell_below k6.out lv0 0).trans F.out.2.2.1; have y2' := (cell_below k6.out HX2.out.1 (j * 3 + 2)).trans HX2.out.2.2; clear g6)
          clear f4 f3 q1 y0 y2 hn4 f3' y2'
          go_roundw
          case rel => exact ⟨j + 1, by omega, by go_num, k6⟩
          case measure => simp [intOf]; omega
        · obtain rfl : j = N := by omega
          have hMi : (0 : Int) < (M : Int) := by omega
          go_wp2
          go_ret
          exact ⟨ret_bool (by first | rfl | simp; omega), B3.out.trans (HB2.out.mono B3.out.size)⟩
theorem walk (s : ByteArray) (hs : s.size ≤ 140737488355320) (w : World) (hL : LaidP w) : Calls Tryd.prog 5 #[.string s] w fun e w' => e = .returned (.bool true) ∧ Below w.heap.size w w' := by
  cases h : parseR s.data.toList with
  | err a c => exact walk_bad s hs w hL a c h
  | ok p => exact walk_ok s hs w hL p h
end Go.Proofs.YthdognmppbckbaaDoor.parseFlat
