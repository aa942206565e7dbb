
/- Contracts: lanes (layer 6). -/
import Derived.Test.YtedfjmidcljmoaaArrI
namespace Go.Proofs.Ytedfjmidcljmoaa
open Go.RowKit
set_option linter.unusedVariables false
set_option linter.unusedSimpArgs false
/-- Lists of numbers in a row, each in a row of its own, no two in one block. -/
structure LnR (w : World) (B : Nat) (v : Value) (n : Nat) (cs : List Value) (ls : List (List Int)) : Prop where
  cl : cs.length = n
  ll : ls.length = n
  own : w.ownsRow B 22 1 v n cs
  lane : ∀ j, j < n → ∃ Y m c, cs[j]? = some (.slice Y m c) ∧ w.ownsRow B 2 1 (.slice Y m c) m ((ls.getD j []).map fun x => Value.int .i64 x)
  apart : ∀ i j, i < j → j < n → ∀ u v g, cs[i]? = some u → cs[j]? = some v → u.ownBlock = some g → v.ownBlock ≠ some g
theorem LnR.nil (w : World) (B : Nat) : LnR w B (.slice none 0 0) 0 [] [] := ⟨rfl, rfl, World.ownsRow_nil _ _ _ _, (fun j hj => absurd hj (Nat.not_lt_zero j)), (fun i j _ hj => absurd hj (Nat.not_lt_zero j))⟩
theorem LnR.up {w w' : World} {B n : Nat} {v : Value} {cs : List Value} {ls : List (List Int)} (h : LnR w B v n cs ls) (hb : Below w.heap.size w w') : LnR w' B v n cs ls :=
  ⟨h.cl, h.ll, own_below h.own hb, fun j hj => by
    obtain ⟨Y, m, c, h1, h2⟩ := h.lane j hj
    exact ⟨Y, m, c, h1, own_below h2 hb⟩, h.apart⟩
theorem list_ne_int : (2 : TypeId) ≠ 22 := by decide
theorem LnR.push {w W w4 : World} {B n m c c' c2 : Nat} {A A' Y : Option Addr} {cs : List Value} {ls : List (List Int)} {l : List Int} (h : LnR w B (.slice A n c) n cs ls) (hb : Below w.heap.size w W)
    (hl : W.ownsRow B 2 1 (.slice Y m c2) m (l.map fun x => Value.int .i64 x)) (hn : ∀ g, (Value.slice Y m c2).ownBlock = some g → w.heap.size ≤ g)
    (ha : App W B 22 (.slice A n c) A' (n + 1) c' (cs ++ [.slice Y m c2]) w4) : LnR w4 B (.slice A' (n + 1) c') (n + 1) (cs ++ [.slice Y m c2]) (ls ++ [l]) := by
  have h' := h.up hb
  have stay : ∀ {v : Value} {k : Nat} {xs : List Value}, W.ownsRow B 2 1 v k xs → w4.ownsRow B 2 1 v k xs := fun {v k xs} q => own_stays q fun g hg => ha.keeps g (q.lt g hg).2 (own_apart q h'.own list_ne_int hg)
  refine ⟨by rw [List.length_append, h.cl]; rfl, by rw [List.length_append, h.ll]; rfl, ha.own, fun j hj => ?_, fun i j hij hj u v g hu hv hg => ?_⟩
  · rcases Nat.lt_or_ge j n with h1 | h1
    · obtain ⟨Y', m', c'', e1, e2⟩ := h'.lane j h1
      refine ⟨Y', m', c'', by rw [List.getElem?_append_left (by rw [h.cl]; exact h1)]; exact e1, ?_⟩
      rw [List.getD_eq_getElem?_getD, List.getElem?_append_left (by rw [h.ll]; exact h1), ← List.getD_eq_getElem?_getD]
      exact stay e2
    · obtain rfl : j = n := by omega
      refine ⟨Y, m, c2, by rw [List.getElem?_append_right (by rw [h.cl]; exact Nat.le_refl _), h.cl]; simp, ?_⟩
      rw [List.getD_eq_getElem?_getD, List.getElem?_append_right (by rw [h.ll]; exact Nat.le_refl _), h.ll]
      simpa using stay hl
  · rcases Nat.lt_or_ge j n with h1 | h1
    · rw [List.getElem?_append_left (by rw [h.cl]; omega)] at hu hv
      exact h.apart i j hij h1 u v g hu hv hg
    · obtain rfl : j = n := by omega
      rw [List.getElem?_append_left (by rw [h.cl]; omega)] at hu
      rw [List.getElem?_append_right (by rw [h.cl]; exact Nat.le_refl _), h.cl] at hv
      simp at hv
      subst hv
      obtain ⟨Y', m', c'', e1, e2⟩ := h.lane i hij
      rw [e1] at hu
      injection hu with hu
      subst hu
      intro hq
      have h1 := (e2.lt g hg).2
      have h2 := hn g hq
      omega
/-- Lanes are answered, and a code. -/
def LanesR (w : World) (r : List (List Int) × Int) (e : Ending) (w' : World) : Prop :=
  ∃ (A : Option Addr) (n c : Nat) (cs : List Value), e = .returned (.tuple #[.slice A n c, .int .i64 r.2]) ∧ n ≤ 65536 ∧ (∀ l ∈ r.1, l.length ≤ 65536 ∧ ∀ x ∈ l, rngA x) ∧ LnR w' w.heap.size (.slice A n c) n cs r.1 ∧ Below w.heap.size w w'
theorem LanesR.bad {w w' : World} {r : List (List Int) × Int} {k : Int} (h : r = ([], k)) (hb : Below w.heap.size w w') : LanesR w r (.returned (.tuple #[.slice none 0 0, .int .i64 k])) w' := by
  subst h
  exact ⟨none, 0, 0, [], rfl, by omega, (fun l hl => by cases hl), LnR.nil _ _, hb⟩
theorem LnR.le {w : World} {B B' n : Nat} {v : Value} {cs : List Value} {ls : List (List Int)} (h : LnR w B v n cs ls) (hb : B' ≤ B) : LnR w B' v n cs ls :=
  ⟨h.cl, h.ll, own_le h.own hb, fun j hj => by
    obtain ⟨Y, m, c, h1, h2⟩ := h.lane j hj
    exact ⟨Y, m, c, h1, own_le h2 hb⟩, h.apart⟩
theorem LanesR.good {w w' : World} {s d : List Int} {A : Option Addr} {n c B : Nat} {cs : List Value} (hr : rightB s d = true) (hd : ∀ x ∈ d, rngA x) (hn : n = nlA s d) (hB : w.heap.size ≤ B) (hl : LnR w' B (.slice A n c) n cs (partsA (lnA s).toNat n d)) (hb : Below w.heap.size w w') : LanesR w (laR s d) (.returned (.tuple #[.slice A n c, .int .i64 0])) w' := by
  subst hn
  rw [la_yes hr]
  have hlen := (right_len hr).1
  have hq := ln_rng (right_yes hr).1
  refine ⟨A, _, c, cs, rfl, ?_, fun l hl2 => ?_, hl.le hB, hb⟩
  · have : nlA s d ≤ d.length := Nat.div_le_self _ _
    omega
  · obtain ⟨j, hj, rfl⟩ := List.mem_iff_getElem.1 hl2
    rw [parts_len] at hj
    have he := parts_get (lnA s).toNat (nlA s d) d j hj
    rw [List.getD_eq_getElem?_getD, List.getElem?_eq_getElem (by rw [parts_len]; exact hj)] at he
    have he : (partsA (lnA s).toNat (nlA s d) d)[j] = _ := he
    rw [he]
    refine ⟨?_, fun x hx => hd x (List.mem_of_mem_drop (List.mem_of_mem_take hx))⟩
    rw [List.length_take]; omega
def lenV : Value → Nat
  | .slice _ n _ => n
  | _ => 0
theorem cell_new2 (w : World) (v : Value) : (w.alloc (.cells #[v] 22)).cell? ⟨w.heap.size, 0, none⟩ = some v := by
  go_simp <;> rfl
theorem part_len {q N j n : Nat} {d : List Int} (hd : d.length = n) (hn : n = N * q) (hj : j < N) : ((d.drop (j * q)).take q).length = q ∧ j * q + q ≤ n := by
  have h := Nat.mul_le_mul_right q (show j + 1 ≤ N from hj)
  rw [Nat.add_mul, Nat.one_mul] at h
  rw [List.length_take, List.length_drop]
  omega
set_option maxRecDepth 20000 in
set_option maxHeartbeats 1000000 in
theorem lanes_form (As : Option Addr) (ns cs : Nat) (Ad : Option Addr) (nd cd : Nat) (s d : List Int) (w : World) (h : ArU w As ns cs Ad nd cd s d) (hr : rightB s d = false) :
    Calls Try.prog 21 #[.agg #[.slice As ns cs, .slice Ad nd cd]] w (LanesR w (laR s d)) := by
  have H := Lib.hid h
  have HR := Lib.hid hr
  have hz := Lib.hid (la_no hr)
  clear h hr
  go_enter Try.func21, Try.ntmps21
  go_wp2_with fail
  refine (right_any _ _ _ _ _ _ s d _ (H.out.below ((Below.refl _ _).alloc (Nat.le_refl _) _))).mono ?_
  rintro e w1 ⟨rfl, hb⟩
  rw [HR.out]
  have HB := Lib.hid ((((Below.refl _ _).alloc (Nat.le_refl _) _) : Below w.heap.size w _).trans (hb.mono (by simp)))
  clear hb
  go_wp2
  go_ret2
  exact LanesR.bad hz.out HB.out
set_option maxRecDepth 20000 in
set_option maxHeartbeats 4000000 in
theorem lanes_none (As : Option Addr) (ns cs : Nat) (Ad : Option Addr) (nd cd : Nat) (s d : List Int) (w : World) (h : ArU w As ns cs Ad nd cd s d) (hr : rightB s d = true) (hs : ¬ 0 < s.length) :
    Calls Try.prog 21 #[.agg #[.slice As ns cs, .slice Ad nd cd]] w (LanesR w (laR s d)) := by
  have H := Lib.hid h
  have HR := Lib.hid hr
  have hl := right_len hr
  have hns4 : ns ≤ 4 := by rw [← H.out.ls]; exact hl.2
  have hnd : nd ≤ 65536 := by rw [← H.out.ld]; exact hl.1
  have hcs := h.hs
  have hcd := h.hd
  have hmd := h.md
  have hms := h.ms
  have hfill := fill_all hr
  have hpos : 0 < d.length → 0 < (lnA s).toNat := fun hd => by have := (ln_fill hr hd).1; omega
  have hq0 := ln_rng (right_yes hr).1
  obtain ⟨q, hq⟩ : ∃ q, q = (lnA s).toNat := ⟨_, rfl⟩
  have hqe : lnA s = (q : Int) := by omega
  obtain ⟨N, hN⟩ : ∃ N, N = nlA s d := ⟨_, rfl⟩
  rw [← hq, ← hN, H.out.ld] at hfill
  rw [← hq, H.out.ld] at hpos
  have hq2 : q ≤ 65536 := by omega
  have hs0 : s.length = 0 := by omega
  have hns0 : ns = 0 := by rw [← H.out.ls]; exact hs0
  have hq1 : q = 1 := by
    have : lnA s = 1 := by unfold lnA; rw [if_neg hs]
    omega
  subst hns0
  subst hq1
  clear hs0
  have HQ := Lib.hid hq
  have HN := Lib.hid hN
  have HF := Lib.hid hfill
  have HPO := Lib.hid hpos
  have HLD := Lib.hid H.out.ld
  clear hl h hr hs hfill hpos hq0 hq hqe hN
  go_enter Try.func21, Try.ntmps21
  go_wp2_with fail
  refine (right_any _ _ _ _ _ _ s d _ (H.out.below ((Below.refl _ _).alloc (Nat.le_refl _) _))).mono ?_
  rintro e w1 ⟨rfl, hb⟩
  rw [HR.out]
  obtain ⟨hc, hf⟩ := blw_reads hb
  have HB := Lib.hid ((((Below.refl _ _).alloc (Nat.le_refl _) _) : Below w.heap.size w _).trans (hb.mono (by simp)))
  have hsz : w.heap.size < w1.heap.size := by have := hb.size; simp at this; omega
  have x0 : w1.cell? ⟨w.heap.size, 0, none⟩ = some (.slice As 0 cs) := by rw [hc _ _ (by simp)]; go_simp
  have x1 : w1.cell? ⟨w.heap.size, 1, none⟩ = some (.slice Ad nd cd) := by rw [hc _ _ (by simp)]; go_simp
  clear hb hc hf
  go_wp2
  have HX0 := Lib.hid x0
  have HX1 := Lib.hid x1
  clear x0 x1
  go_loopw [6, 7] (fun v r wr => ∃ (j : Nat) (A : Option Addr) (c : Nat) (us : List Value) (Y : Option Addr) (m c' : Nat), j ≤ N ∧ v = .slice A j c ∧ r = .slice Y m c' ∧ m + j * 1 = nd ∧ m ≤ c' ∧ c' ≤ 9223372036854775807 ∧ RdA w1 Y (d.drop (j * 1)) ∧ LnR wr w1.heap.size (.slice A j c) j us (partsA 1 j d) ∧ Below w1.heap.size w1 wr) (fun _ r _ => lenV r)
  case atStart => exact ⟨0, none, 0, [], Ad, nd, cd, by omega, rfl, rfl, by omega, hcd, hmd, by rw [Nat.zero_mul, List.drop_zero]; exact H.out.rd.below HB.out, LnR.nil _ _, Below.refl _ _⟩
  case round =>
    obtain ⟨j, A, c, us, Y, m, c', hj, rfl, rfl, hm, hmc, hcm, hrd, hln, hbb⟩ := hrel
    have HRD := Lib.hid hrd
    have HLN := Lib.hid hln
    have HBB := Lib.hid hbb
    have HM := Lib.hid hm
    clear hrd hln hbb hm
    by_cases hlt : 0 < m
    · have hjN : j < N := by
        rcases Nat.lt_or_ge j N with h1 | h1
        · exact h1
        · have h2 := Nat.mul_le_mul_right 1 h1
          have h3 := HF.out
          have h4 := HM.out
          omega
      have hpl := part_len (d := d) HLD.out HF.out hjN
      have hq0 : 0 < 1 := HPO.out (by have := HM.out; omega)
      have hqm : 1 ≤ m := by have := HM.out; omega
      have hcutH := run_cut_h Y m c' 1 1 (by rfl) (by omega)
      have hcutL := run_cut_l Y m c' 1 1 (by rfl) hqm
      have hR1 := Lib.hid (HRD.out.cut (lo := 0) (m := 1) (cap := c') (by rw [List.length_drop, HLD.out]; omega) (by rw [List.length_drop, HLD.out]; have := HM.out; omega))
      have hR2 := Lib.hid (HRD.out.tail (lo := 1) (cap := c') (by rw [List.length_drop, HLD.out]; omega) (by rw [List.length_drop, HLD.out]; have := HM.out; omega))
      rw [List.drop_zero] at hR1
      rw [List.drop_drop] at hR2
      obtain ⟨Y1, hY1⟩ : ∃ Y1, Y1 = cutW Y c' 0 := ⟨_, rfl⟩
      obtain ⟨Y2, hY2⟩ : ∃ Y2, Y2 = cutW Y c' 1 := ⟨_, rfl⟩
      rw [← hY1] at hcutH hR1
      rw [← hY2] at hcutL hR2
      have HPL := Lib.hid hpl
      have hN7 : j ≤ 65536 := by
        have h2 := Nat.mul_le_mul_left j hq0
        have h4 := HM.out
        omega
      clear hY1 hY2 hpl
      go_wp2_with fail
      refine (fresh_any _ _ _ ((d.drop (j * 1)).take 1) _ (hR1.out.below HBB.out) HPL.out.1 (by omega)).mono ?_
      rintro e w5 ⟨g, rfl, hg, hk, hb5⟩
      have HK := Lib.hid hk
      have HB5 := Lib.hid hb5
      clear hk hb5
      go_wp2_with (at_builtin; refine wpList_app_l rfl _ _ rfl w1.heap.size (.slice A j c) j us (by rfl) ((own_below HLN.out.own HB5.out).alloc _) w5.heap.size 1 (some ⟨g, 0, none⟩) 1 1 (by rfl) (cell_new2 w5 _) (by omega) (by have h1 := HBB.out.size; have h2 := HB5.out.size; simp; omega) ?_; intro A7 c7 w7 ha7)
      go_roundw
      case rel =>
        have hpush := HLN.out.push (HB5.out.trans ((Below.refl _ _).alloc HB5.out.size _)) ((HK.out.own (base := w1.heap.size) (by have := HBB.out.size; omega) HPL.out.1 (by unfold maxLen; omega)).alloc _) (fun g' hg' => by simp [Value.ownBlock] at hg'; omega) ha7.out
        have hbw : Below w1.heap.size w1 w7 := HBB.out.trans ((HB5.out.mono HBB.out.size).trans (((Below.refl _ _).alloc (Nat.le_trans HBB.out.size HB5.out.size) _).trans ha7.out.below))
        refine ⟨j + 1, A7, c7, _, Y2, m - 1, c' - 1, hjN, rfl, rfl, by have := HM.out; rw [Nat.add_mul, Nat.one_mul]; omega, by omega, by omega, ?_, by rw [parts_snoc]; exact hpush, hbw⟩
        rw [Nat.add_mul, Nat.one_mul]
        exact hR2.out
      case measure => simp [lenV]; omega
    · have hjN : j = N := by
        have h1 := HF.out
        have h2 := HM.out
        rcases Nat.eq_zero_or_pos nd with h0 | h0
        · have h3 : N = 0 := by rw [HN.out]; exact nl_zero (by rw [HLD.out]; exact h0)
          omega
        · have hq0 := HPO.out h0
          have h3 : j * 1 = N * 1 := by omega
          exact Nat.eq_of_mul_eq_mul_right hq0 h3
      have HJ := Lib.hid hjN
      clear hjN
      go_wp2
      go_ret2
      exact LanesR.good HR.out H.out.rd.1 (by rw [HJ.out, HN.out]) HB.out.size (by rw [← HQ.out]; exact HLN.out) (HB.out.trans (HBB.out.mono HB.out.size))
set_option maxRecDepth 20000 in
set_option maxHeartbeats 4000000 in
theorem lanes_some (As : Option Addr) (ns cs : Nat) (Ad : Option Addr) (nd cd : Nat) (s d : List Int) (w : World) (h : ArU w As ns cs Ad nd cd s d) (hr : rightB s d = true) (hs : 0 < s.length) :
    Calls Try.prog 21 #[.agg #[.slice As ns cs, .slice Ad nd cd]] w (LanesR w (laR s d)) := by
  have H := Lib.hid h
  have HR := Lib.hid hr
  have hl := right_len hr
  have hns4 : ns ≤ 4 := by rw [← H.out.ls]; exact hl.2
  have hnd : nd ≤ 65536 := by rw [← H.out.ld]; exact hl.1
  have hcs := h.hs
  have hcd := h.hd
  have hmd := h.md
  have hms := h.ms
  have hfill := fill_all hr
  have hpos : 0 < d.length → 0 < (lnA s).toNat := fun hd => by have := (ln_fill hr hd).1; omega
  have hq0 := ln_rng (right_yes hr).1
  obtain ⟨q, hq⟩ : ∃ q, q = (lnA s).toNat := ⟨_, rfl⟩
  have hqe : lnA s = (q : Int) := by omega
  obtain ⟨N, hN⟩ : ∃ N, N = nlA s d := ⟨_, rfl⟩
  rw [← hq, ← hN, H.out.ld] at hfill
  rw [← hq, H.out.ld] at hpos
  have hq2 : q ≤ 65536 := by omega
  obtain ⟨t, rfl⟩ : ∃ t, ns = t + 1 := ⟨ns - 1, by rw [← H.out.ls]; omega⟩
  obtain ⟨b0, o0, rfl, hb0, hc0⟩ := H.out.rs.at_ (k := t) (by rw [H.out.ls]; omega)
  have hx : ith s t = (q : Int) := by
    have : lnA s = ith s (s.length - 1) := by unfold lnA; rw [if_pos hs]
    rw [← hqe, this, H.out.ls, Nat.add_sub_cancel]
  rw [hx] at hc0
  have htt : (((t + 1 : Nat) : Int) - 1) = (t : Int) := by omega
  clear hx
  have HQ := Lib.hid hq
  have HN := Lib.hid hN
  have HF := Lib.hid hfill
  have HPO := Lib.hid hpos
  have HLD := Lib.hid H.out.ld
  clear hl h hr hs hfill hpos hq0 hq hqe hN
  go_enter Try.func21, Try.ntmps21
  go_wp2_with fail
  refine (right_any _ _ _ _ _ _ s d _ (H.out.below ((Below.refl _ _).alloc (Nat.le_refl _) _))).mono ?_
  rintro e w1 ⟨rfl, hb⟩
  rw [HR.out]
  obtain ⟨hc, hf⟩ := blw_reads hb
  have HB := Lib.hid ((((Below.refl _ _).alloc (Nat.le_refl _) _) : Below w.heap.size w _).trans (hb.mono (by simp)))
  have hsz : w.heap.size < w1.heap.size := by have := hb.size; simp at this; omega
  have hc1 : w1.cell? ⟨b0, o0 + t, none⟩ = some (.int .i64 (q : Int)) := by
    rw [hb.cell (p := ⟨b0, o0 + t, none⟩) (by simp; omega), World.cell?_alloc_lt _ _ _ hb0]; exact hc0
  have x0 : w1.cell? ⟨w.heap.size, 0, none⟩ = some (.slice (some ⟨b0, o0, none⟩) (t + 1) cs) := by rw [hc _ _ (by simp)]; go_simp
  have x1 : w1.cell? ⟨w.heap.size, 1, none⟩ = some (.slice Ad nd cd) := by rw [hc _ _ (by simp)]; go_simp
  clear hb hc hf
  go_wp2
  have HX0 := Lib.hid x0
  have HX1 := Lib.hid x1
  clear x0 x1
  go_loopw [6, 7] (fun v r wr => ∃ (j : Nat) (A : Option Addr) (c : Nat) (us : List Value) (Y : Option Addr) (m c' : Nat), j ≤ N ∧ v = .slice A j c ∧ r = .slice Y m c' ∧ m + j * q = nd ∧ m ≤ c' ∧ c' ≤ 9223372036854775807 ∧ RdA w1 Y (d.drop (j * q)) ∧ LnR wr w1.heap.size (.slice A j c) j us (partsA q j d) ∧ Below w1.heap.size w1 wr) (fun _ r _ => lenV r)
  case atStart => exact ⟨0, none, 0, [], Ad, nd, cd, by omega, rfl, rfl, by omega, hcd, hmd, by rw [Nat.zero_mul, List.drop_zero]; exact H.out.rd.below HB.out, LnR.nil _ _, Below.refl _ _⟩
  case round =>
    obtain ⟨j, A, c, us, Y, m, c', hj, rfl, rfl, hm, hmc, hcm, hrd, hln, hbb⟩ := hrel
    have HRD := Lib.hid hrd
    have HLN := Lib.hid hln
    have HBB := Lib.hid hbb
    have HM := Lib.hid hm
    clear hrd hln hbb hm
    by_cases hlt : 0 < m
    · have hjN : j < N := by
        rcases Nat.lt_or_ge j N with h1 | h1
        · exact h1
        · have h2 := Nat.mul_le_mul_right q h1
          have h3 := HF.out
          have h4 := HM.out
          omega
      have hpl := part_len (d := d) HLD.out HF.out hjN
      have hq0 : 0 < q := HPO.out (by have := HM.out; omega)
      have hqm : q ≤ m := by have := HM.out; omega
      have hcutH := run_cut_h Y m c' (q : Int) q (by rfl) (by omega)
      have hcutL := run_cut_l Y m c' (q : Int) q (by rfl) hqm
      have hR1 := Lib.hid (HRD.out.cut (lo := 0) (m := q) (cap := c') (by rw [List.length_drop, HLD.out]; omega) (by rw [List.length_drop, HLD.out]; have := HM.out; omega))
      have hR2 := Lib.hid (HRD.out.tail (lo := q) (cap := c') (by rw [List.length_drop, HLD.out]; omega) (by rw [List.length_drop, HLD.out]; have := HM.out; omega))
      rw [List.drop_zero] at hR1
      rw [List.drop_drop] at hR2
      obtain ⟨Y1, hY1⟩ : ∃ Y1, Y1 = cutW Y c' 0 := ⟨_, rfl⟩
      obtain ⟨Y2, hY2⟩ : ∃ Y2, Y2 = cutW Y c' q := ⟨_, rfl⟩
      rw [← hY1] at hcutH hR1
      rw [← hY2] at hcutL hR2
      have HPL := Lib.hid hpl
      have hN7 : j ≤ 65536 := by
        have h2 := Nat.mul_le_mul_left j hq0
        have h4 := HM.out
        omega
      clear hY1 hY2 hpl
      go_wp2_with fail
      refine (fresh_any _ _ _ ((d.drop (j * q)).take q) _ (hR1.out.below HBB.out) HPL.out.1 (by omega)).mono ?_
      rintro e w5 ⟨g, rfl, hg, hk, hb5⟩
      have HK := Lib.hid hk
      have HB5 := Lib.hid hb5
      clear hk hb5
      go_wp2_with (at_builtin; refine wpList_app_l rfl _ _ rfl w1.heap.size (.slice A j c) j us (by rfl) ((own_below HLN.out.own HB5.out).alloc _) w5.heap.size 1 (some ⟨g, 0, none⟩) q q (by rfl) (cell_new2 w5 _) (by omega) (by have h1 := HBB.out.size; have h2 := HB5.out.size; simp; omega) ?_; intro A7 c7 w7 ha7)
      go_roundw
      case rel =>
        have hpush := HLN.out.push (HB5.out.trans ((Below.refl _ _).alloc HB5.out.size _)) ((HK.out.own (base := w1.heap.size) (by have := HBB.out.size; omega) HPL.out.1 (by unfold maxLen; omega)).alloc _) (fun g' hg' => by simp [Value.ownBlock] at hg'; omega) ha7.out
        have hbw : Below w1.heap.size w1 w7 := HBB.out.trans ((HB5.out.mono HBB.out.size).trans (((Below.refl _ _).alloc (Nat.le_trans HBB.out.size HB5.out.size) _).trans ha7.out.below))
        refine ⟨j + 1, A7, c7, _, Y2, m - q, c' - q, hjN, rfl, rfl, by have := HM.out; rw [Nat.add_mul, Nat.one_mul]; omega, by omega, by omega, ?_, by rw [parts_snoc]; exact hpush, hbw⟩
        rw [Nat.add_mul, Nat.one_mul]
        exact hR2.out
      case measure => simp [lenV]; omega
    · have hjN : j = N := by
        have h1 := HF.out
        have h2 := HM.out
        rcases Nat.eq_zero_or_pos nd with h0 | h0
        · have h3 : N = 0 := by rw [HN.out]; exact nl_zero (by rw [HLD.out]; exact h0)
          omega
        · have hq0 := HPO.out h0
          have h3 : j * q = N * q := by omega
          exact Nat.eq_of_mul_eq_mul_right hq0 h3
      have HJ := Lib.hid hjN
      clear hjN
      go_wp2
      go_ret2
      exact LanesR.good HR.out H.out.rd.1 (by rw [HJ.out, HN.out]) HB.out.size (by rw [← HQ.out]; exact HLN.out) (HB.out.trans (HBB.out.mono HB.out.size))
theorem lanes_any (As : Option Addr) (ns cs : Nat) (Ad : Option Addr) (nd cd : Nat) (s d : List Int) (w : World) (h : ArU w As ns cs Ad nd cd s d) :
    Calls Try.prog 21 #[.agg #[.slice As ns cs, .slice Ad nd cd]] w (LanesR w (laR s d)) := by
  cases hr : rightB s d with
  | false => exact lanes_form As ns cs Ad nd cd s d w h hr
  | true =>
    by_cases hs : 0 < s.length
    · exact lanes_some As ns cs Ad nd cd s d w h hr hs
    · exact lanes_none As ns cs Ad nd cd s d w h hr hs
end Go.Proofs.Ytedfjmidcljmoaa
