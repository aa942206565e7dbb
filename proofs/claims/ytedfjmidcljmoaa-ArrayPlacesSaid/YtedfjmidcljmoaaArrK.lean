
/- Contracts: lanes by the document (layer 6). -/
import Derived.Test.YtedfjmidcljmoaaArrJ
namespace Go.Proofs.Ytedfjmidcljmoaa
open Go.RowKit
set_option linter.unusedVariables false
set_option linter.unusedSimpArgs false
set_option maxRecDepth 20000 in
set_option maxHeartbeats 1000000 in
theorem reflanes_form (As : Option Addr) (ns cs : Nat) (Ad : Option Addr) (nd cd : Nat) (s d : List Int) (w : World) (h : ArU w As ns cs Ad nd cd s d) (hr : rightB s d = false) :
    Calls Try.prog 22 #[.agg #[.slice As ns cs, .slice Ad nd cd]] w (LanesR w (laR s d)) := by
  have H := Lib.hid h
  have HR := Lib.hid hr
  have hz := Lib.hid (la_no hr)
  clear h hr
  go_enter Try.func22, Try.ntmps22
  go_wp2_with fail
  refine (refright_any _ _ _ _ _ _ s d _ (H.out.below ((Below.refl _ _).alloc (Nat.le_refl _) _))).mono ?_
  rintro e w1 ⟨rfl, hb⟩
  rw [HR.out]
  have HB := Lib.hid ((((Below.refl _ _).alloc (Nat.le_refl _) _) : Below w.heap.size w _).trans (hb.mono (by simp)))
  clear hb
  go_wp2
  go_ret2
  exact LanesR.bad hz.out HB.out
set_option maxRecDepth 20000 in
set_option maxHeartbeats 4000000 in
theorem reflanes_none (As : Option Addr) (ns cs : Nat) (Ad : Option Addr) (nd cd : Nat) (s d : List Int) (w : World) (h : ArU w As ns cs Ad nd cd s d) (hr : rightB s d = true) (hs : ¬ 0 < s.length) :
    Calls Try.prog 22 #[.agg #[.slice As ns cs, .slice Ad nd cd]] w (LanesR w (laR s d)) := by
  have H := Lib.hid h
  have HR := Lib.hid hr
  have hl := right_len hr
  have hns4 : ns ≤ 4 := by rw [← H.out.ls]; exact hl.2
  have hnd : nd ≤ 65536 := by rw [← H.out.ld]; exact hl.1
  have hcs := h.hs
  have hcd := h.hd
  have hmd := h.md
  have hms := h.ms
  have hfill := fill_all hr
  have hpos : 0 < d.length → 0 < (lnA s).toNat := fun hd => by have := (ln_fill hr hd).1; omega
  have hq0 := ln_rng (right_yes hr).1
  obtain ⟨q, hq⟩ : ∃ q, q = (lnA s).toNat := ⟨_, rfl⟩
  have hqe : lnA s = (q : Int) := by omega
  obtain ⟨N, hN⟩ : ∃ N, N = nlA s d := ⟨_, rfl⟩
  rw [← hq, ← hN, H.out.ld] at hfill
  rw [← hq, H.out.ld] at hpos
  have hq2 : q ≤ 65536 := by omega
  have hs0 : s.length = 0 := by omega
  have hns0 : ns = 0 := by rw [← H.out.ls]; exact hs0
  have hq1 : q = 1 := by
    have : lnA s = 1 := by unfold lnA; rw [if_neg hs]
    omega
  subst hns0
  subst hq1
  clear hs0
  have HQ := Lib.hid hq
  have HN := Lib.hid hN
  have HF := Lib.hid hfill
  have HPO := Lib.hid hpos
  have HLD := Lib.hid H.out.ld
  clear hl h hr hs hfill hpos hq0 hq hqe hN
  go_enter Try.func22, Try.ntmps22
  go_wp2_with fail
  refine (refright_any _ _ _ _ _ _ s d _ (H.out.below ((Below.refl _ _).alloc (Nat.le_refl _) _))).mono ?_
  rintro e w1 ⟨rfl, hb⟩
  rw [HR.out]
  obtain ⟨hc, hf⟩ := blw_reads hb
  have HB := Lib.hid ((((Below.refl _ _).alloc (Nat.le_refl _) _) : Below w.heap.size w _).trans (hb.mono (by simp)))
  have hsz : w.heap.size < w1.heap.size := by have := hb.size; simp at this; omega
  have x0 : w1.cell? ⟨w.heap.size, 0, none⟩ = some (.slice As 0 cs) := by rw [hc _ _ (by simp)]; go_simp
  have x1 : w1.cell? ⟨w.heap.size, 1, none⟩ = some (.slice Ad nd cd) := by rw [hc _ _ (by simp)]; go_simp
  clear hb hc hf
  go_wp2
  have HX0 := Lib.hid x0
  have HX1 := Lib.hid x1
  clear x0 x1
  go_loopw [5, 6] (fun v r wr => ∃ (j i : Nat) (A : Option Addr) (c : Nat) (us : List Value), j ≤ N ∧ v = .slice A j c ∧ r = .int .i64 (i : Int) ∧ i = j * 1 ∧ LnR wr w1.heap.size (.slice A j c) j us (partsA 1 j d) ∧ Below w1.heap.size w1 wr) (fun _ r _ => nd - (intOf r).toNat)
  case atStart => exact ⟨0, 0, none, 0, [], by omega, rfl, rfl, by omega, LnR.nil _ _, Below.refl _ _⟩
  case round =>
    obtain ⟨j, i, A, c, us, hj, rfl, rfl, hi, hln, hbb⟩ := hrel
    have HLN := Lib.hid hln
    have HBB := Lib.hid hbb
    have HI := Lib.hid hi
    have x1 : wr.cell? ⟨w.heap.size, 1, none⟩ = some (.slice Ad nd cd) := by
      rw [hbb.cell (p := ⟨w.heap.size, 1, none⟩) hsz]; exact HX1.out
    have hin : i ≤ nd := by
      rw [hi, HF.out]; exact Nat.mul_le_mul_right 1 hj
    clear hln hbb hi
    by_cases hlt : i < nd
    · have hjN : j < N := by
        rcases Nat.lt_or_ge j N with h1 | h1
        · exact h1
        · have h2 := Nat.mul_le_mul_right 1 h1
          have h3 := HF.out
          have h4 := HI.out
          omega
      have hpl := part_len (d := d) HLD.out HF.out hjN
      rw [← HI.out] at hpl
      have hq0 : 0 < 1 := HPO.out (by omega)
      have hiq := hpl.2
      have hcut := run_cut Ad nd cd (i : Int) ((i : Int) + 1) i (i + 1) rfl (by omega) (by omega) (by omega)
      rw [Nat.add_sub_cancel_left] at hcut
      have hR1 := Lib.hid (H.out.rd.cut (lo := i) (m := 1) (cap := cd) (by rw [HLD.out]; omega) (by rw [HLD.out]; omega))
      obtain ⟨Y1, hY1⟩ : ∃ Y1, Y1 = cutW Ad cd i := ⟨_, rfl⟩
      rw [← hY1] at hcut hR1
      have HPL := Lib.hid hpl
      have hN7 : j ≤ 65536 := by
        have h2 := Nat.mul_le_mul_left j hq0
        have h4 := HI.out
        omega
      have hwz : w1.heap.size ≤ wr.heap.size := HBB.out.size
      have hw0 : w.heap.size < wr.heap.size := by omega
      clear hY1 hpl
      go_wp2_with (first
        | (at_builtin; refine wpList_app_i rfl _ _ rfl w1.heap.size (.slice (some ⟨wr.heap.size, 0, none⟩) 0 0) 0 [] (by rfl) (own_empty (heap_alloc_new wr _) hwz) Y1 1 (cd - i) ((d.drop i).take 1) (by rfl) HPL.out.1 (hR1.out.below (HB.out.trans ((HBB.out.mono HB.out.size).trans ((Below.refl _ _).alloc (Nat.le_of_lt hw0) _)))) (by omega) (by simp; omega) ?_; intro A6 c6 w6 ha6; have hz6 : wr.heap.size < w6.heap.size := (by have := ha6.out.below.size; simp at this; omega); have hr6 := Lib.hid ((HLN.out.own.alloc (.cells #[] 2))); have hown6 := Lib.hid (own_stays (w' := w6) hr6.out fun k hk => ha6.out.keeps k (hr6.out.lt k hk).2 (fun e => by have h9 := (HLN.out.own.lt k hk).2; simp [Value.ownBlock] at e; omega)))
        | (at_builtin; refine wpList_app_l rfl _ _ rfl w1.heap.size (.slice A j c) j us (by rfl) (hown6.out.alloc _) w6.heap.size 1 A6 1 c6 (by rfl) (cell_new2 w6 _) (by omega) (by simp; omega) ?_; intro A7 c7 w7 ha7))
      go_roundw
      case rel =>
        have h1 := ha6.out.own
        rw [Nat.zero_add, List.nil_append] at h1
        have hb6 : Below wr.heap.size wr w6 := ((Below.refl _ _).alloc (Nat.le_refl _) _).trans (ha6.out.below' (fun k hk => by simp [Value.ownBlock] at hk; omega) (by simp))
        have hpush := HLN.out.push (hb6.alloc hb6.size _) (h1.alloc _) (fun g' hg' => by
          rcases ha6.out.lies g' (by rw [Nat.zero_add]; exact hg') with e | e
          · simp [Value.ownBlock] at e; omega
          · simp at e; omega) ha7.out
        have hbw : Below w1.heap.size w1 w7 := HBB.out.trans ((hb6.mono hwz).trans (((Below.refl _ _).alloc (Nat.le_trans hwz hb6.size) _).trans ha7.out.below))
        refine ⟨j + 1, i + 1, A7, c7, us ++ [.slice A6 1 c6], hjN, rfl, by go_num, by rw [Nat.add_mul, Nat.one_mul, HI.out], ?_, hbw⟩
        rw [parts_snoc, ← HI.out]; exact hpush
      case measure => simp [intOf]; omega
    · have hjN : j = N := by
        have h1 := HF.out
        have h2 := HI.out
        rcases Nat.eq_zero_or_pos nd with h0 | h0
        · have h3 : N = 0 := by rw [HN.out]; exact nl_zero (by rw [HLD.out]; exact h0)
          omega
        · have hq0 := HPO.out h0
          have h3 : j * 1 = N * 1 := by omega
          exact Nat.eq_of_mul_eq_mul_right hq0 h3
      have HJ := Lib.hid hjN
      have hw0 : w.heap.size < wr.heap.size := by have := HBB.out.size; omega
      clear hjN
      go_wp2
      go_ret2
      exact LanesR.good HR.out H.out.rd.1 (by rw [HJ.out, HN.out]) HB.out.size (by rw [← HQ.out]; exact HLN.out) (HB.out.trans (HBB.out.mono HB.out.size))
set_option maxRecDepth 20000 in
set_option maxHeartbeats 4000000 in
theorem reflanes_some (As : Option Addr) (ns cs : Nat) (Ad : Option Addr) (nd cd : Nat) (s d : List Int) (w : World) (h : ArU w As ns cs Ad nd cd s d) (hr : rightB s d = true) (hs : 0 < s.length) :
    Calls Try.prog 22 #[.agg #[.slice As ns cs, .slice Ad nd cd]] w (LanesR w (laR s d)) := by
  have H := Lib.hid h
  have HR := Lib.hid hr
  have hl := right_len hr
  have hns4 : ns ≤ 4 := by rw [← H.out.ls]; exact hl.2
  have hnd : nd ≤ 65536 := by rw [← H.out.ld]; exact hl.1
  have hcs := h.hs
  have hcd := h.hd
  have hmd := h.md
  have hms := h.ms
  have hfill := fill_all hr
  have hpos : 0 < d.length → 0 < (lnA s).toNat := fun hd => by have := (ln_fill hr hd).1; omega
  have hq0 := ln_rng (right_yes hr).1
  obtain ⟨q, hq⟩ : ∃ q, q = (lnA s).toNat := ⟨_, rfl⟩
  have hqe : lnA s = (q : Int) := by omega
  obtain ⟨N, hN⟩ : ∃ N, N = nlA s d := ⟨_, rfl⟩
  rw [← hq, ← hN, H.out.ld] at hfill
  rw [← hq, H.out.ld] at hpos
  have hq2 : q ≤ 65536 := by omega
  obtain ⟨t, rfl⟩ : ∃ t, ns = t + 1 := ⟨ns - 1, by rw [← H.out.ls]; omega⟩
  obtain ⟨b0, o0, rfl, hb0, hc0⟩ := H.out.rs.at_ (k := t) (by rw [H.out.ls]; omega)
  have hx : ith s t = (q : Int) := by
    have : lnA s = ith s (s.length - 1) := by unfold lnA; rw [if_pos hs]
    rw [← hqe, this, H.out.ls, Nat.add_sub_cancel]
  rw [hx] at hc0
  have htt : (((t + 1 : Nat) : Int) - 1) = (t : Int) := by omega
  clear hx
  have HQ := Lib.hid hq
  have HN := Lib.hid hN
  have HF := Lib.hid hfill
  have HPO := Lib.hid hpos
  have HLD := Lib.hid H.out.ld
  clear hl h hr hs hfill hpos hq0 hq hqe hN
  go_enter Try.func22, Try.ntmps22
  go_wp2_with fail
  refine (refright_any _ _ _ _ _ _ s d _ (H.out.below ((Below.refl _ _).alloc (Nat.le_refl _) _))).mono ?_
  rintro e w1 ⟨rfl, hb⟩
  rw [HR.out]
  obtain ⟨hc, hf⟩ := blw_reads hb
  have HB := Lib.hid ((((Below.refl _ _).alloc (Nat.le_refl _) _) : Below w.heap.size w _).trans (hb.mono (by simp)))
  have hsz : w.heap.size < w1.heap.size := by have := hb.size; simp at this; omega
  have hc1 : w1.cell? ⟨b0, o0 + t, none⟩ = some (.int .i64 (q : Int)) := by
    rw [hb.cell (p := ⟨b0, o0 + t, none⟩) (by simp; omega), World.cell?_alloc_lt _ _ _ hb0]; exact hc0
  have x0 : w1.cell? ⟨w.heap.size, 0, none⟩ = some (.slice (some ⟨b0, o0, none⟩) (t + 1) cs) := by rw [hc _ _ (by simp)]; go_simp
  have x1 : w1.cell? ⟨w.heap.size, 1, none⟩ = some (.slice Ad nd cd) := by rw [hc _ _ (by simp)]; go_simp
  clear hb hc hf
  go_wp2
  have HX0 := Lib.hid x0
  have HX1 := Lib.hid x1
  clear x0 x1
  go_loopw [5, 6] (fun v r wr => ∃ (j i : Nat) (A : Option Addr) (c : Nat) (us : List Value), j ≤ N ∧ v = .slice A j c ∧ r = .int .i64 (i : Int) ∧ i = j * q ∧ LnR wr w1.heap.size (.slice A j c) j us (partsA q j d) ∧ Below w1.heap.size w1 wr) (fun _ r _ => nd - (intOf r).toNat)
  case atStart => exact ⟨0, 0, none, 0, [], by omega, rfl, rfl, by omega, LnR.nil _ _, Below.refl _ _⟩
  case round =>
    obtain ⟨j, i, A, c, us, hj, rfl, rfl, hi, hln, hbb⟩ := hrel
    have HLN := Lib.hid hln
    have HBB := Lib.hid hbb
    have HI := Lib.hid hi
    have x1 : wr.cell? ⟨w.heap.size, 1, none⟩ = some (.slice Ad nd cd) := by
      rw [hbb.cell (p := ⟨w.heap.size, 1, none⟩) hsz]; exact HX1.out
    have hin : i ≤ nd := by
      rw [hi, HF.out]; exact Nat.mul_le_mul_right q hj
    clear hln hbb hi
    by_cases hlt : i < nd
    · have hjN : j < N := by
        rcases Nat.lt_or_ge j N with h1 | h1
        · exact h1
        · have h2 := Nat.mul_le_mul_right q h1
          have h3 := HF.out
          have h4 := HI.out
          omega
      have hpl := part_len (d := d) HLD.out HF.out hjN
      rw [← HI.out] at hpl
      have hq0 : 0 < q := HPO.out (by omega)
      have hiq := hpl.2
      have hcut := run_cut Ad nd cd (i : Int) ((i : Int) + (q : Int)) i (i + q) rfl (by omega) (by omega) (by omega)
      rw [Nat.add_sub_cancel_left] at hcut
      have hR1 := Lib.hid (H.out.rd.cut (lo := i) (m := q) (cap := cd) (by rw [HLD.out]; omega) (by rw [HLD.out]; omega))
      obtain ⟨Y1, hY1⟩ : ∃ Y1, Y1 = cutW Ad cd i := ⟨_, rfl⟩
      rw [← hY1] at hcut hR1
      have HPL := Lib.hid hpl
      have hN7 : j ≤ 65536 := by
        have h2 := Nat.mul_le_mul_left j hq0
        have h4 := HI.out
        omega
      have hwz : w1.heap.size ≤ wr.heap.size := HBB.out.size
      have hw0 : w.heap.size < wr.heap.size := by omega
      clear hY1 hpl
      go_wp2_with (first
        | (at_builtin; refine wpList_app_i rfl _ _ rfl w1.heap.size (.slice (some ⟨wr.heap.size, 0, none⟩) 0 0) 0 [] (by rfl) (own_empty (heap_alloc_new wr _) hwz) Y1 q (cd - i) ((d.drop i).take q) (by rfl) HPL.out.1 (hR1.out.below (HB.out.trans ((HBB.out.mono HB.out.size).trans ((Below.refl _ _).alloc (Nat.le_of_lt hw0) _)))) (by omega) (by simp; omega) ?_; intro A6 c6 w6 ha6; have hz6 : wr.heap.size < w6.heap.size := (by have := ha6.out.below.size; simp at this; omega); have hr6 := Lib.hid ((HLN.out.own.alloc (.cells #[] 2))); have hown6 := Lib.hid (own_stays (w' := w6) hr6.out fun k hk => ha6.out.keeps k (hr6.out.lt k hk).2 (fun e => by have h9 := (HLN.out.own.lt k hk).2; simp [Value.ownBlock] at e; omega)))
        | (at_builtin; refine wpList_app_l rfl _ _ rfl w1.heap.size (.slice A j c) j us (by rfl) (hown6.out.alloc _) w6.heap.size 1 A6 q c6 (by rfl) (cell_new2 w6 _) (by omega) (by simp; omega) ?_; intro A7 c7 w7 ha7))
      go_roundw
      case rel =>
        have h1 := ha6.out.own
        rw [Nat.zero_add, List.nil_append] at h1
        have hb6 : Below wr.heap.size wr w6 := ((Below.refl _ _).alloc (Nat.le_refl _) _).trans (ha6.out.below' (fun k hk => by simp [Value.ownBlock] at hk; omega) (by simp))
        have hpush := HLN.out.push (hb6.alloc hb6.size _) (h1.alloc _) (fun g' hg' => by
          rcases ha6.out.lies g' (by rw [Nat.zero_add]; exact hg') with e | e
          · simp [Value.ownBlock] at e; omega
          · simp at e; omega) ha7.out
        have hbw : Below w1.heap.size w1 w7 := HBB.out.trans ((hb6.mono hwz).trans (((Below.refl _ _).alloc (Nat.le_trans hwz hb6.size) _).trans ha7.out.below))
        refine ⟨j + 1, i + q, A7, c7, us ++ [.slice A6 q c6], hjN, rfl, by go_num, by rw [Nat.add_mul, Nat.one_mul, HI.out], ?_, hbw⟩
        rw [parts_snoc, ← HI.out]; exact hpush
      case measure => simp [intOf]; omega
    · have hjN : j = N := by
        have h1 := HF.out
        have h2 := HI.out
        rcases Nat.eq_zero_or_pos nd with h0 | h0
        · have h3 : N = 0 := by rw [HN.out]; exact nl_zero (by rw [HLD.out]; exact h0)
          omega
        · have hq0 := HPO.out h0
          have h3 : j * q = N * q := by omega
          exact Nat.eq_of_mul_eq_mul_right hq0 h3
      have HJ := Lib.hid hjN
      have hw0 : w.heap.size < wr.heap.size := by have := HBB.out.size; omega
      clear hjN
      go_wp2
      go_ret2
      exact LanesR.good HR.out H.out.rd.1 (by rw [HJ.out, HN.out]) HB.out.size (by rw [← HQ.out]; exact HLN.out) (HB.out.trans (HBB.out.mono HB.out.size))
theorem reflanes_any (As : Option Addr) (ns cs : Nat) (Ad : Option Addr) (nd cd : Nat) (s d : List Int) (w : World) (h : ArU w As ns cs Ad nd cd s d) :
    Calls Try.prog 22 #[.agg #[.slice As ns cs, .slice Ad nd cd]] w (LanesR w (laR s d)) := by
  cases hr : rightB s d with
  | false => exact reflanes_form As ns cs Ad nd cd s d w h hr
  | true =>
    by_cases hs : 0 < s.length
    · exact reflanes_some As ns cs Ad nd cd s d w h hr hs
    · exact reflanes_none As ns cs Ad nd cd s d w h hr hs
end Go.Proofs.Ytedfjmidcljmoaa
