
/- Contracts: a cell by the document, where there is one (layer 6). -/
import Derived.Test.YtedfjmidcljmoaaArrH
namespace Go.Proofs.Ytedfjmidcljmoaa
open Go.RowKit
set_option linter.unusedVariables false
set_option linter.unusedSimpArgs false
theorem cell_new1 (w : World) (y : Int) : ((w.alloc (.cells #[.int .i64 y] 2)).drew).cell? ⟨w.heap.size, 0, none⟩ = some (.int .i64 y) := by
  show (w.alloc (.cells #[.int .i64 y] 2)).cell? ⟨w.heap.size, 0, none⟩ = _
  go_simp <;> rfl
theorem blw_new (w : World) (o : Obj) : Below w.heap.size w ((w.alloc o).drew) := by
  have h := (Below.refl w.heap.size w).alloc (Nat.le_refl _) o
  exact ⟨h.os, h.tape, h.output, h.size, h.block⟩
theorem CellR.docs {w W : World} {s d : List Int} {k : Nat} {A1 A2 : Option Addr} {n1 c1 n2 c2 B : Nat} (hr : rightB s d = true) (h0 : 0 < s.length) (h1 : (k : Int) < ith s 0) (hd : ∀ x ∈ d, rngA x) (hn1 : (s.drop 1).length = n1) (hn2 : (cutA d (clA s d) k d.length).length = n2) (hB : w.heap.size ≤ B)
    (hb1 : W.ownsRow B 2 1 (.slice A1 n1 c1) n1 ((s.drop 1).map fun x => Value.int .i64 x)) (hb2 : W.ownsRow B 2 1 (.slice A2 n2 c2) n2 ((cutA d (clA s d) k d.length).map fun x => Value.int .i64 x)) (hb : Below w.heap.size w W) : CellR w (ceR s d k) (.returned (.tuple #[.agg #[.slice A1 n1 c1, .slice A2 n2 c2], .int .i64 0])) W := by
  rw [ce_yes hr ⟨h0, by omega, h1⟩, Int.toNat_natCast]
  rw [cut_end] at hb2 hn2
  have q1 := own_cap hb1
  have q2 := own_cap hb2
  unfold maxLen at q1 q2
  refine ⟨_, n1, c1, _, n2, c2, rfl, ⟨RdA.of_own hb1 fun x hx => ?_, RdA.of_own hb2 fun x hx => ?_, hn1, hn2, q1.1, q2.1, by omega, by omega⟩, own_le hb1 hB, own_le hb2 hB, hb⟩
  · have := (right_yes hr).1.2.1 x (List.mem_of_mem_drop hx)
    unfold rngA; omega
  · exact hd x (List.mem_of_mem_drop (List.mem_of_mem_take hx))
set_option maxRecDepth 20000 in
set_option maxHeartbeats 4000000 in
theorem refcell_good (As : Option Addr) (ns cs : Nat) (Ad : Option Addr) (nd cd : Nat) (k : Nat) (s d : List Int) (w : World) (h : ArU w As ns cs Ad nd cd s d) (hr : rightB s d = true) (h0 : 0 < s.length) (h1 : (k : Int) < ith s 0) :
    Calls Try.prog 20 #[.agg #[.slice As ns cs, .slice Ad nd cd], .int .i64 (k : Int)] w (CellR w (ceR s d k)) := by
  have H := Lib.hid h
  have HR := Lib.hid hr
  have hl := right_len hr
  have hns4 : ns ≤ 4 := by rw [← H.out.ls]; exact hl.2
  have hnd : nd ≤ 65536 := by rw [← H.out.ld]; exact hl.1
  have hls := H.out.ls
  have hcs := H.out.hs
  have hn1 : ((ns : Int) == 0) = false := by simp; omega
  have hn2 : 0 < ns := by omega
  have hk0 : decide ((k : Int) < 0) = false := decide_eq_false (by omega)
  obtain ⟨b0, o0, rfl, hb0, hc0⟩ := H.out.rs.at_ (k := 0) h0
  rw [Nat.add_zero] at hc0
  have hcut2 := run_cut_l (some ⟨b0, o0, none⟩) ns cs 1 1 rfl (by omega)
  have hR1 := Lib.hid (H.out.rs.tail (lo := 1) (cap := cs) h0 (by omega))
  obtain ⟨Y1, hY1⟩ : ∃ Y, Y = cutW (some ⟨b0, o0, none⟩) cs 1 := ⟨_, rfl⟩
  rw [← hY1] at hcut2 hR1
  have HF := Lib.hid h1
  obtain ⟨x, hx⟩ : ∃ x, x = ith s 0 := ⟨_, rfl⟩
  rw [← hx] at hc0 h1
  have h1' : decide (x ≤ (k : Int)) = false := decide_eq_false (by omega)
  have HLS := Lib.hid hls
  have HL0 := Lib.hid h0
  have HLD := Lib.hid H.out.ld
  clear hls hY1 hx hl h h0 hr
  go_enter Try.func20, Try.ntmps20
  go_wp2_with fail
  refine (refright_any _ _ _ _ _ _ s d _ (H.out.below (((Below.refl _ _).alloc (Nat.le_refl _) _).alloc (by simp) _))).mono ?_
  rintro e w1 ⟨rfl, hb⟩
  rw [HR.out]
  obtain ⟨hc, hf⟩ := blw_reads hb
  have hc1 : w1.cell? ⟨b0, o0, none⟩ = some (.int .i64 x) := by
    rw [hb.cell (p := ⟨b0, o0, none⟩) (by simp; omega), World.cell?_alloc_lt _ _ _ (by simp; omega), World.cell?_alloc_lt _ _ _ hb0]; exact hc0
  have HB := Lib.hid (((((Below.refl _ _).alloc (Nat.le_refl _) _).alloc (by simp) _) : Below w.heap.size w _).trans (hb.mono (by simp; omega)))
  have hsz : w.heap.size + 1 < w1.heap.size := by have := hb.size; simp at this; omega
  have hsz0 : w.heap.size < w1.heap.size := by omega
  clear hb
  go_wp2_with (at_builtin; refine wpList_app_i rfl _ _ rfl (w.heap.size + 2) (.slice (some ⟨w1.heap.size, 0, none⟩) 0 0) 0 [] (by rfl) (own_empty (heap_alloc_new w1 _) (by omega)) Y1 (ns - 1) (cs - 1) (s.drop 1) (by rfl) (by rw [List.length_drop, HLS.out]) (hR1.out.below (HB.out.alloc HB.out.size _)) (by omega) (by simp; omega) ?_; intro A1 c1 w3 ha1)
  have hS := ha1.out.own
  rw [Nat.zero_add, List.nil_append] at hS
  have HS := Lib.hid hS
  have HB3 := Lib.hid (((HB.out.alloc HB.out.size (.cells #[] 2))).trans (ha1.out.below.mono (by omega)))
  have hlt3 : w1.heap.size < w3.heap.size := by have := ha1.out.below.size; simp at this; omega
  have hkeep : ∀ j, j < w1.heap.size → w3.heap[j]? = w1.heap[j]? := fun j hj => by
    rw [ha1.out.keeps j (by simp; omega) (by simp [Value.ownBlock]; omega)]
    exact Below.heap_alloc _ _ _ hj
  have x0 : w3.cell? ⟨w.heap.size, 0, none⟩ = some (.slice (some ⟨b0, o0, none⟩) ns cs) := by
    rw [World.cell?_of_block (hkeep _ hsz0), hc _ _ (by simp; omega)]; go_simp
  have x1 : w3.cell? ⟨w.heap.size, 1, none⟩ = some (.slice Ad nd cd) := by
    rw [World.cell?_of_block (hkeep _ hsz0), hc _ _ (by simp; omega)]; go_simp
  have y0 : w3.cell? ⟨w.heap.size + 1, 0, none⟩ = some (.slice none 0 0) := by
    rw [World.cell?_of_block (hkeep _ hsz), hc _ _ (by simp)]; go_simp
  have y1 : w3.cell? ⟨w.heap.size + 1, 1, none⟩ = some (.slice none 0 0) := by
    rw [World.cell?_of_block (hkeep _ hsz), hc _ _ (by simp)]; go_simp
  have z0 : w3.frozen? ⟨w.heap.size + 1, 0, none⟩ = false := by
    rw [World.frozen?_of_block (hkeep _ hsz), hf _ _ (by simp)]; go_simp
  have z1 : w3.frozen? ⟨w.heap.size + 1, 1, none⟩ = false := by
    rw [World.frozen?_of_block (hkeep _ hsz), hf _ _ (by simp)]; go_simp
  have hst : CSt w3 (w3.alloc (.cells #[.slice A1 (ns - 1) c1, .slice none 0 0] 24)) w3.heap.size (.slice A1 (ns - 1) c1) none 0 0 (cutA d (clA s d) k 0) :=
    ⟨heap_alloc_new _ _, by rw [cut_zero]; exact World.ownsRow_nil _ _ _ _, by rw [cut_zero]; rfl, (Below.refl _ _).alloc (Nat.le_refl _) _⟩
  obtain ⟨g, hg⟩ : ∃ g, g = w3.heap.size := ⟨_, rfl⟩
  rw [← hg] at hst hlt3
  rw [← hg]
  have HST := Lib.hid hst
  have HG := Lib.hid hg
  have X0 := Lib.hid x0
  have X1 := Lib.hid x1
  have Y0 := Lib.hid y0
  have Y1' := Lib.hid y1
  have Z0 := Lib.hid z0
  have Z1 := Lib.hid z1
  have hg0 : w.heap.size < g := by omega
  have hg1 : w.heap.size + 1 < g := by omega
  clear hst hg x0 x1 y0 y1 z0 z1 hkeep ha1 hS hc hf hc1 hcut2 hlt3 hsz hsz0
  go_loopw [7] (fun i wr => ∃ (j : Nat) (A : Option Addr) (m c : Nat), j ≤ nd ∧ i = .int .i64 j ∧ CSt w3 wr g (.slice A1 (ns - 1) c1) A m c (cutA d (clA s d) k j)) (fun i _ => nd - (intOf i).toNat)
  case atStart => exact ⟨0, none, 0, 0, by omega, rfl, HST.out⟩
  case round =>
    obtain ⟨j, A, m, c, hj, rfl, hcs⟩ := hrel
    have HCS := Lib.hid hcs
    clear hcs
    have x0 : wr.cell? ⟨w.heap.size, 0, none⟩ = some (.slice (some ⟨b0, o0, none⟩) ns cs) := (HCS.out.reads hg0 0).1.trans X0.out
    have x1 : wr.cell? ⟨w.heap.size, 1, none⟩ = some (.slice Ad nd cd) := (HCS.out.reads hg0 1).1.trans X1.out
    have HBR := Lib.hid (HB3.out.trans (HCS.out.below.mono (Nat.le_of_lt hg0)))
    by_cases hlt : j < nd
    · have hjd : j < d.length := by rw [HLD.out]; exact hlt
      have hixh := ix_head HR.out HL0.out hjd
      have hin : 0 ≤ (j : Int) ∧ (j : Int) < prodA s := by
        have := (right_yes HR.out).2
        omega
      have hix := ix_yes (right_yes HR.out).1 hin
      have hcall := refindex_any (some ⟨b0, o0, none⟩) ns cs (j : Int) s wr (H.out.rs.below HBR.out) HLS.out (by omega)
      rw [hix] at hcall
      have hp := hixh.2
      have hxe : ith (ixA s (j : Int)) 0 = ((j / clA s d : Nat) : Int) := hixh.1
      obtain ⟨P, hP⟩ : ∃ P, P = clA s d := ⟨_, rfl⟩
      rw [← hP] at hp hxe
      have HP := Lib.hid hP
      obtain ⟨b2, o2, hAd, hb2, hc2⟩ := (H.out.rd.below HBR.out).at_ hjd
      obtain ⟨y, hy⟩ : ∃ y, y = ith d j := ⟨_, rfl⟩
      rw [← hy] at hc2
      have HY := Lib.hid hy
      have HXE := Lib.hid hxe
      have HIX := Lib.hid hix
      have HAD := Lib.hid hAd
      have hcut := Lib.hid (cut_step (k := k) (P := P) hjd hp)
      have hl0 : 0 < (ixA s (j : Int)).length := by rw [ixA_len, HLS.out]; exact hn2
      have HL1 := Lib.hid hl0
      clear hixh hin hix hP hy hxe hAd hjd hl0
      have HC := Lib.hid hcall
      clear hcall
      rw [← HP.out] at HCS
      go_wp2_with fail
      refine HC.out.mono ?_
      rintro e w6 ⟨A', m', c', rfl, hlen, hm4, hown, hrd, hb6⟩
      obtain ⟨b3, o3, rfl, hb3, hc3⟩ := hrd.at_ (k := 0) HL1.out
      have HCS6 := Lib.hid (HCS.out.up hb6)
      have x1' : w6.cell? ⟨w.heap.size, 1, none⟩ = some (.slice Ad nd cd) := by
        rw [hb6.cell (p := ⟨w.heap.size, 1, none⟩) (by have := HCS.out.lt; simp; omega)]; exact x1
      have hc2' : w6.cell? ⟨b2, o2 + j, none⟩ = some (.int .i64 y) := by
        rw [hb6.cell (p := ⟨b2, o2 + j, none⟩) hb2]; exact hc2
      have hz6 : wr.heap.size ≤ w6.heap.size := hb6.size
      have hm0 : 0 < m' := by rw [← hlen]; exact HL1.out
      rw [HXE.out, Nat.add_zero] at hc3
      have hADe := HAD.out
      subst hADe
      have HB6 := Lib.hid hb6
      clear hlen hown hrd hb6 x0 x1 hc2
      by_cases hq : j / P = k
      · have hq1 : (((j / P : Nat) : Int) == (k : Int)) = true := by rw [hq]; simp
        have hlg := HCS6.out.lt
        have hmj := Lib.hid HCS6.out.len
        have hm1 : m ≤ j := by
          rw [← HCS6.out.len]
          unfold cutA
          rw [List.length_take, List.length_drop, List.length_take]
          omega
        have e1 := HCS6.out.cell.2.1
        have hKS : ∀ A' c' w7, Hid (App ((w6.alloc (.cells #[.int .i64 y] 2)).drew) (g + 1) 2 (.slice A m c) A' (m + 1) c' ((cutA d P k j ++ [y]).map fun x => Value.int .i64 x) w7) → w7.cell? ⟨g, 1, none⟩ = some (.slice A m c) ∧ w7.frozen? ⟨g, 1, none⟩ = false := fun A' c' w7 ha => by
          have hne : (Value.slice A m c).ownBlock ≠ some g := fun e => by have := (HCS6.out.own.lt g e).1; omega
          have h7 : w7.heap[g]? = w6.heap[g]? := (ha.out.keeps g (by simp; omega) hne).trans (Below.heap_alloc w6 _ g hlg)
          exact ⟨(World.cell?_of_block (a := ⟨g, 1, none⟩) h7).trans HCS6.out.cell.2.1, (World.frozen?_of_block (a := ⟨g, 1, none⟩) h7).trans (HCS6.out.cell.2.2 1)⟩
        have HKS := Lib.hid hKS
        have hbz : b2 < w6.heap.size := by omega
        have hwz : w.heap.size < w6.heap.size := by omega
        have HQ := Lib.hid hq
        clear hq hKS
        go_wp2_with fail
        go_region_law ((refine step_app_1 (by rfl) _ _ (by rfl) (g + 1) (.slice A m c) m (cutA d P k j) (by rfl) ((HCS6.out.own.alloc _).drew) w6.heap.size 1 y (by rfl) (cell_new1 w6 y) (by omega) (by simp; omega) ?_; intro A7 c7 w7 ha7; obtain ⟨j0, j1⟩ := HKS.out A7 c7 w7 ha7))
        all_goals
          go_wp2
          go_roundw
          case rel => exact ⟨j + 1, A7, m + 1, c7, by omega, by go_num, by
            have hpush := HCS6.out.push (W := (w6.alloc (.cells #[.int .i64 y] 2)).drew) (blw_new _ _) ha7.out
            rw [← HP.out, hcut.out, if_pos HQ.out, show d.getD j 0 = y from HY.out.symm]
            exact hpush⟩
          case measure => simp [intOf]; omega
      · have hq1 : (((j / P : Nat) : Int) == (k : Int)) = false := by simp; omega
        have HQ := Lib.hid hq
        clear hq
        go_wp2
        go_roundw
        case rel => exact ⟨j + 1, A, m, c, by omega, by go_num, by
            rw [← HP.out, hcut.out, if_neg HQ.out]
            exact HCS6.out⟩
        case measure => simp [intOf]; omega
    · obtain rfl : j = nd := by omega
      have e0 := HCS.out.cell.1
      have e1 := HCS.out.cell.2.1
      have y0 : wr.cell? ⟨w.heap.size + 1, 0, none⟩ = some (.slice none 0 0) := (HCS.out.reads hg1 0).1.trans Y0.out
      have y1 : wr.cell? ⟨w.heap.size + 1, 1, none⟩ = some (.slice none 0 0) := (HCS.out.reads hg1 1).1.trans Y1'.out
      have z0 : wr.frozen? ⟨w.heap.size + 1, 0, none⟩ = false := (HCS.out.reads hg1 0).2.trans Z0.out
      have z1 : wr.frozen? ⟨w.heap.size + 1, 1, none⟩ = false := (HCS.out.reads hg1 1).2.trans Z1.out
      clear hlt
      go_wp2
      refine bodyPost_ret (v := .tuple #[.agg #[.slice A1 (ns - 1) c1, .slice A m c], .int .i64 0]) (by simp [results, Try.results20, go_sem, y0, y1]) rfl (CellR.docs (B := w.heap.size + 2) HR.out HL0.out HF.out H.out.rd.1 (by rw [List.length_drop, HLS.out]) (by rw [HLD.out]; exact HCS.out.len) (by omega) ?_ ?_ ?_)
      · exact ownsRow_setCell_below (ownsRow_setCell_below (own_stays HS.out fun q hq => HCS.out.below.block q (by have := (HS.out.lt q hq).2; rw [HG.out]; exact this)) (by simp) _) (by simp) _
      · rw [HLD.out]
        exact ownsRow_setCell_below (ownsRow_setCell_below (own_le HCS.out.own (by omega)) (by simp) _) (by simp) _
      · exact (HBR.out.setCell (by simp) _).setCell (by simp) _
theorem refcell_any (As : Option Addr) (ns cs : Nat) (Ad : Option Addr) (nd cd : Nat) (k : Int) (s d : List Int) (w : World) (h : ArU w As ns cs Ad nd cd s d) :
    Calls Try.prog 20 #[.agg #[.slice As ns cs, .slice Ad nd cd], .int .i64 k] w (CellR w (ceR s d k)) := by
  cases hr : rightB s d with
  | false => exact refcell_form As ns cs Ad nd cd k s d w h hr
  | true =>
    by_cases hk : 0 < s.length ∧ 0 ≤ k ∧ k < ith s 0
    · obtain ⟨n, rfl⟩ := Int.eq_ofNat_of_zero_le hk.2.1
      exact refcell_good As ns cs Ad nd cd n s d w h hr hk.1 hk.2.2
    · exact refcell_none As ns cs Ad nd cd k s d w h hr hk
end Go.Proofs.Ytedfjmidcljmoaa
