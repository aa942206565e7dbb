
/- Contracts: a cell by the code (layer 6). -/
import Derived.Test.YtedfjmidcljmoaaArrE
import Derived.Test.YtedfjmidcljmoaaArrR
namespace Go.Proofs.Ytedfjmidcljmoaa
open Go.RowKit
set_option linter.unusedVariables false
/-- What was there reads as it did. -/
theorem blw_reads {u v : World} (k : Below u.heap.size u v) : (∀ j i, j < u.heap.size → v.cell? ⟨j, i, none⟩ = u.cell? ⟨j, i, none⟩) ∧ ∀ j i, j < u.heap.size → v.frozen? ⟨j, i, none⟩ = u.frozen? ⟨j, i, none⟩ := by
  constructor
  · intro j i hj; exact World.cell?_of_block (k.block j hj)
  · intro j i hj; exact World.frozen?_of_block (k.block j hj)
/-- Where a cut begins. -/
def cutW (A : Option Addr) (cap lo : Nat) : Option Addr := if cap = lo then A else A.map (·.add lo)
theorem sizeInt (w : World) : (sizeOf (Try.prog.elem 22)).run Try.prog w = .ok 1 w := by kernel_rfl
theorem run_cut (A : Option Addr) (n cap : Nat) (lo hi : Int) (l h : Nat) (e1 : lo = l) (e2 : hi = h) (h1 : l ≤ h) (h2 : h ≤ cap) (w : World) :
    (Instr.slice 22 (.slice A n cap) (some (.int .i64 lo)) (some (.int .i64 hi)) none).run Try.prog w = .ok (.slice (cutW A cap l) (h - l) (cap - l)) w := by
  subst e1 e2
  rw [run_slice_lh w 22 A n cap (by kernel_rfl) .i64 .i64 l h (by omega) (by omega) (by omega), sizeInt]
  simp [Result.andThen, sliced, cutW]
theorem run_cut_l (A : Option Addr) (n cap : Nat) (lo : Int) (l : Nat) (e1 : lo = l) (h1 : l ≤ n) (w : World) :
    (Instr.slice 22 (.slice A n cap) (some (.int .i64 lo)) none none).run Try.prog w = .ok (.slice (cutW A cap l) (n - l) (cap - l)) w := by
  subst e1
  rw [run_slice_l w 22 A n cap (by kernel_rfl) .i64 l (by omega) (by omega), sizeInt]
  simp [Result.andThen, sliced, cutW]
theorem run_cut_h (A : Option Addr) (n cap : Nat) (hi : Int) (h : Nat) (e2 : hi = h) (h2 : h ≤ cap) (w : World) :
    (Instr.slice 22 (.slice A n cap) none (some (.int .i64 hi)) none).run Try.prog w = .ok (.slice (cutW A cap 0) h cap) w := by
  subst e2
  rw [run_slice_h w 22 A n cap (by kernel_rfl) .i64 h (by omega) (by omega), sizeInt]
  simp [Result.andThen, sliced, cutW]
theorem ith_drop (l : List Int) (k i : Nat) : ith (l.drop k) i = ith l (k + i) := by
  unfold ith
  rw [List.getD_eq_getElem?_getD, List.getD_eq_getElem?_getD, List.getElem?_drop]
theorem RdA.cut {w : World} {A : Option Addr} {l : List Int} {cap lo m : Nat} (h : RdA w A l) (h1 : lo + m ≤ l.length) (h2 : l.length ≤ cap) : RdA w (cutW A cap lo) ((l.drop lo).take m) := by
  refine ⟨fun x hx => h.1 x (List.mem_of_mem_drop (List.mem_of_mem_take hx)), fun hl => ?_⟩
  rw [List.length_take, List.length_drop] at hl
  obtain ⟨b, o, rfl, hb, hc⟩ := h.2 (by omega)
  refine ⟨b, o + lo, ?_, hb, fun i hi => ?_⟩
  · unfold cutW
    rw [if_neg (by omega)]
    simp [WideShapes.add_plain]
  · rw [List.length_take, List.length_drop] at hi
    rw [ith_take (by omega), ith_drop, Nat.add_assoc]
    exact hc _ (by omega)
theorem RdA.tail {w : World} {A : Option Addr} {l : List Int} {cap lo : Nat} (h : RdA w A l) (h1 : lo ≤ l.length) (h2 : l.length ≤ cap) : RdA w (cutW A cap lo) (l.drop lo) := by
  have := h.cut (lo := lo) (m := l.length - lo) (cap := cap) (by omega) h2
  rwa [List.take_of_length_le (by rw [List.length_drop]; omega)] at this
/-- An array is answered, in memory of its own, and a code. -/
def CellR (w : World) (r : (List Int × List Int) × Int) (e : Ending) (w' : World) : Prop :=
  ∃ (As : Option Addr) (ns cs : Nat) (Ad : Option Addr) (nd cd : Nat), e = .returned (.tuple #[.agg #[.slice As ns cs, .slice Ad nd cd], .int .i64 r.2]) ∧ ArU w' As ns cs Ad nd cd r.1.1 r.1.2 ∧
    w'.ownsRow w.heap.size 2 1 (.slice As ns cs) ns (r.1.1.map fun x => Value.int .i64 x) ∧ w'.ownsRow w.heap.size 2 1 (.slice Ad nd cd) nd (r.1.2.map fun x => Value.int .i64 x) ∧ Below w.heap.size w w'
theorem CellR.bad {w w' : World} {r : (List Int × List Int) × Int} {k : Int} (h : r = (([], []), k)) (hb : Below w.heap.size w w') : CellR w r (.returned (.tuple #[.agg #[.slice none 0 0, .slice none 0 0], .int .i64 k])) w' := by
  subst h
  exact ⟨none, 0, 0, none, 0, 0, rfl, ⟨RdA.nil _ _, RdA.nil _ _, rfl, rfl, by omega, by omega, by omega, by omega⟩, World.ownsRow_nil _ _ _ _, World.ownsRow_nil _ _ _ _, hb⟩
set_option maxRecDepth 20000 in
set_option maxHeartbeats 1000000 in
theorem cell_form (As : Option Addr) (ns cs : Nat) (Ad : Option Addr) (nd cd : Nat) (k : Int) (s d : List Int) (w : World) (h : ArU w As ns cs Ad nd cd s d) (hr : rightB s d = false) :
    Calls Try.prog 19 #[.agg #[.slice As ns cs, .slice Ad nd cd], .int .i64 k] w (CellR w (ceR s d k)) := by
  have H := Lib.hid h
  have HR := Lib.hid hr
  have hz := Lib.hid (ce_no (k := k) hr)
  clear h hr
  go_enter Try.func19, Try.ntmps19
  go_wp2_with fail
  refine (right_any _ _ _ _ _ _ s d _ (H.out.below (((Below.refl _ _).alloc (Nat.le_refl _) _).alloc (by simp) _))).mono ?_
  rintro e w1 ⟨rfl, hb⟩
  rw [HR.out]
  obtain ⟨hc, hf⟩ := blw_reads hb
  have HB := Lib.hid (((((Below.refl _ _).alloc (Nat.le_refl _) _).alloc (by simp) _) : Below w.heap.size w _).trans (hb.mono (by simp; omega)))
  clear hb
  go_wp2
  refine bodyPost_ret (v := .tuple #[.agg #[.slice none 0 0, .slice none 0 0], .int .i64 60]) (by simp [results, Try.results19, go_sem, hc]) rfl (CellR.bad hz.out ?_)
  exact (HB.out.setCell (by simp) _).setCell (by simp) _
set_option maxRecDepth 20000 in
set_option maxHeartbeats 1000000 in
theorem cell_none (As : Option Addr) (ns cs : Nat) (Ad : Option Addr) (nd cd : Nat) (k : Int) (s d : List Int) (w : World) (h : ArU w As ns cs Ad nd cd s d) (hr : rightB s d = true) (hk : ¬ (0 < s.length ∧ 0 ≤ k ∧ k < ith s 0)) :
    Calls Try.prog 19 #[.agg #[.slice As ns cs, .slice Ad nd cd], .int .i64 k] w (CellR w (ceR s d k)) := by
  have H := Lib.hid h
  have HR := Lib.hid hr
  have hz := Lib.hid (ce_none (k := k) hr hk)
  have HK := Lib.hid hk
  clear h hr hk
  by_cases hn : ns = 0
  · have hn1 : ((ns : Int) == 0) = true := by rw [hn]; rfl
    clear HK hn
    go_enter Try.func19, Try.ntmps19
    go_wp2_with fail
    refine (right_any _ _ _ _ _ _ s d _ (H.out.below (((Below.refl _ _).alloc (Nat.le_refl _) _).alloc (by simp) _))).mono ?_
    rintro e w1 ⟨rfl, hb⟩
    rw [HR.out]
    obtain ⟨hc, hf⟩ := blw_reads hb
    have HB := Lib.hid (((((Below.refl _ _).alloc (Nat.le_refl _) _).alloc (by simp) _) : Below w.heap.size w _).trans (hb.mono (by simp; omega)))
    clear hb
    go_wp2
    refine bodyPost_ret (v := .tuple #[.agg #[.slice none 0 0, .slice none 0 0], .int .i64 62]) (by simp [results, Try.results19, go_sem, hc]) rfl (CellR.bad hz.out ?_)
    exact (HB.out.setCell (by simp) _).setCell (by simp) _
  · have hn1 : ((ns : Int) == 0) = false := by simp; omega
    have hn2 : 0 < ns := by omega
    obtain ⟨b0, o0, rfl, hb0, hc0⟩ := H.out.rs.at_ (k := 0) (by rw [H.out.ls]; omega)
    obtain ⟨x, hx⟩ : ∃ x, x = ith s 0 := ⟨_, rfl⟩
    rw [← hx, Nat.add_zero] at hc0
    have hbel := Lib.hid (show ¬ (0 ≤ k ∧ k < x) by
      intro g
      rw [hx] at g
      exact HK.out ⟨by rw [H.out.ls]; omega, g⟩)
    clear HK hn hx
    go_enter Try.func19, Try.ntmps19
    go_wp2_with fail
    refine (right_any _ _ _ _ _ _ s d _ (H.out.below (((Below.refl _ _).alloc (Nat.le_refl _) _).alloc (by simp) _))).mono ?_
    rintro e w1 ⟨rfl, hb⟩
    rw [HR.out]
    obtain ⟨hc, hf⟩ := blw_reads hb
    have hc1 : w1.cell? ⟨b0, o0, none⟩ = some (.int .i64 x) := by
      rw [hb.cell (p := ⟨b0, o0, none⟩) (by simp; omega), World.cell?_alloc_lt _ _ _ (by simp; omega), World.cell?_alloc_lt _ _ _ hb0]; exact hc0
    have HB := Lib.hid (((((Below.refl _ _).alloc (Nat.le_refl _) _).alloc (by simp) _) : Below w.heap.size w _).trans (hb.mono (by simp; omega)))
    clear hb
    go_wp2_with fail
    refine (below_no _ _ _ hbel.out).mono ?_
    rintro e w2 ⟨rfl, rfl⟩
    go_wp2
    refine bodyPost_ret (v := .tuple #[.agg #[.slice none 0 0, .slice none 0 0], .int .i64 62]) (by simp [results, Try.results19, go_sem, hc]) rfl (CellR.bad hz.out ?_)
    exact (HB.out.setCell (by simp) _).setCell (by simp) _
theorem CellR.good {w w' : World} {s d : List Int} {k : Nat} {g1 g2 n1 n2 : Nat} (hr : rightB s d = true) (h0 : 0 < s.length) (h1 : (k : Int) < ith s 0) (hd : ∀ x ∈ d, rngA x) (hn1 : n1 = s.length - 1) (hn2 : n2 = clA s d) (hg1 : w.heap.size ≤ g1) (hg2 : w.heap.size ≤ g2)
    (hb1 : BkA w' g1 (s.drop 1)) (hb2 : BkA w' g2 ((d.drop (k * clA s d)).take (clA s d))) (hb : Below w.heap.size w w') : CellR w (ceR s d k) (.returned (.tuple #[.agg #[.slice (some ⟨g1, 0, none⟩) n1 n1, .slice (some ⟨g2, 0, none⟩) n2 n2], .int .i64 0])) w' := by
  rw [ce_yes hr ⟨h0, by omega, h1⟩, Int.toNat_natCast]
  have hl := right_len hr
  have hc := cut_len hr h0 h1
  have hf := cl_fit hr h0 h1
  rw [Nat.add_mul] at hf
  subst hn1 hn2
  have hm1 : s.length - 1 ≤ maxLen := by unfold maxLen; omega
  have hm2 : clA s d ≤ maxLen := by unfold maxLen; omega
  refine ⟨_, s.length - 1, s.length - 1, _, clA s d, clA s d, rfl, ⟨hb1.rd fun x hx => ?_, hb2.rd fun x hx => ?_, by simp, hc, Nat.le_refl _, Nat.le_refl _, by omega, by omega⟩, hb1.own hg1 (by simp) hm1, hb2.own hg2 hc hm2, hb⟩
  · have := (right_yes hr).1.2.1 x (List.mem_of_mem_drop hx)
    unfold rngA; omega
  · exact hd x (List.mem_of_mem_drop (List.mem_of_mem_take hx))
set_option maxRecDepth 20000 in
set_option maxHeartbeats 2000000 in
theorem cell_good (As : Option Addr) (ns cs : Nat) (Ad : Option Addr) (nd cd : Nat) (k : Nat) (s d : List Int) (w : World) (h : ArU w As ns cs Ad nd cd s d) (hr : rightB s d = true) (h0 : 0 < s.length) (h1 : (k : Int) < ith s 0) :
    Calls Try.prog 19 #[.agg #[.slice As ns cs, .slice Ad nd cd], .int .i64 (k : Int)] w (CellR w (ceR s d k)) := by
  have H := Lib.hid h
  have HR := Lib.hid hr
  have hl := right_len hr
  have hfit := cl_fit hr h0 h1
  have hdiv := cl_div hr h0 (by omega)
  have hx0 := (ok_ith (right_yes hr).1 0).2
  have HF := Lib.hid hfit
  have HGD : Hid _ := Lib.hid (@CellR.good w (s := s) (d := d) (k := k) (hr := hr) (h0 := h0) (h1 := h1) (hd := h.rd.1))
  have h1s : 1 ≤ s.length := h0
  have hns4 : ns ≤ 4 := by rw [← H.out.ls]; exact hl.2
  clear h hr
  obtain ⟨q, hq⟩ : ∃ q, q = clA s d := ⟨_, rfl⟩
  rw [← hq] at hfit hdiv
  rw [H.out.ld] at hfit hdiv
  have hls := H.out.ls
  have hld := H.out.ld
  have hcs := H.out.hs
  have hcd := H.out.hd
  have hmd := H.out.md
  have hms := H.out.ms
  obtain ⟨b0, o0, rfl, hb0, hc0⟩ := H.out.rs.at_ (k := 0) h0
  obtain ⟨x, hx⟩ : ∃ x, x = ith s 0 := ⟨_, rfl⟩
  rw [← hx] at hc0 h1 hx0 hdiv
  rw [Nat.add_zero] at hc0
  have hn1 : ((ns : Int) == 0) = false := by simp; omega
  have hn2 : 0 < ns := by omega
  have hnd : nd ≤ 65536 := by omega
  have hk0 : (0 : Int) ≤ (k : Int) := by omega
  have hkq : k * q ≤ nd := Nat.le_trans (Nat.mul_le_mul_right q (Nat.le_succ k)) hfit
  have hm1 : (0 : Int) ≤ (k : Int) * (q : Int) ∧ (k : Int) * (q : Int) ≤ 65536 := by
    rw [← Int.natCast_mul]; omega
  have hm2 : (0 : Int) ≤ ((k : Int) + 1) * (q : Int) ∧ ((k : Int) + 1) * (q : Int) ≤ 65536 := by
    have : ((k : Int) + 1) * (q : Int) = (((k + 1) * q : Nat) : Int) := by rw [Int.natCast_mul]; rfl
    rw [this]; omega
  have hcut := run_cut Ad nd cd ((k : Int) * (q : Int)) (((k : Int) + 1) * (q : Int)) (k * q) ((k + 1) * q) (by rw [Int.natCast_mul]) (by rw [Int.natCast_mul]; rfl) (Nat.mul_le_mul_right q (Nat.le_succ k)) (by omega)
  have hcut2 := run_cut_l (some ⟨b0, o0, none⟩) ns cs 1 1 rfl (by omega)
  have hR1 := Lib.hid (H.out.rs.tail (lo := 1) (cap := cs) h0 (by omega))
  have hR2 := Lib.hid (H.out.rd.cut (lo := k * q) (m := q) (cap := cd) (by rw [H.out.ld]; rw [Nat.add_mul, Nat.one_mul] at hfit; exact hfit) (by omega))
  rw [show (k + 1) * q - k * q = q by rw [Nat.add_mul, Nat.one_mul]; omega] at hcut
  obtain ⟨Y1, hY1⟩ : ∃ Y, Y = cutW (some ⟨b0, o0, none⟩) cs 1 := ⟨_, rfl⟩
  obtain ⟨Y2, hY2⟩ : ∃ Y, Y = cutW Ad cd (k * q) := ⟨_, rfl⟩
  rw [← hY1] at hcut2 hR1
  rw [← hY2] at hcut hR2
  have hdiv2 : (nd : Int).tdiv x = q := by
    rw [Int.tdiv_eq_ediv_of_nonneg (by omega)]; exact hdiv
  have HLS := Lib.hid hls
  have HLD := Lib.hid hld
  have HQ := Lib.hid hq
  have hq2 : q ≤ 65536 := by rw [Nat.add_mul] at hfit; omega
  have hqn : q ≤ nd := by rw [Nat.add_mul] at hfit; omega
  obtain ⟨m1, hm1e⟩ : ∃ m, m = k * q := ⟨_, rfl⟩
  rw [← hm1e] at hcut hkq hR2
  have HM1 := Lib.hid hm1e
  clear hls hld hq hY1 hY2 hfit hx hl h1s h0 hm1e hdiv
  obtain ⟨hm11, hm12⟩ := hm1
  obtain ⟨hm21, hm22⟩ := hm2
  go_enter Try.func19, Try.ntmps19
  go_wp2_with fail
  refine (right_any _ _ _ _ _ _ s d _ (H.out.below (((Below.refl _ _).alloc (Nat.le_refl _) _).alloc (by simp) _))).mono ?_
  rintro e w1 ⟨rfl, hb⟩
  rw [HR.out]
  obtain ⟨hc, hf⟩ := blw_reads hb
  have hc1 : w1.cell? ⟨b0, o0, none⟩ = some (.int .i64 x) := by
    rw [hb.cell (p := ⟨b0, o0, none⟩) (by simp; omega), World.cell?_alloc_lt _ _ _ (by simp; omega), World.cell?_alloc_lt _ _ _ hb0]; exact hc0
  have HB := Lib.hid (((((Below.refl _ _).alloc (Nat.le_refl _) _).alloc (by simp) _) : Below w.heap.size w _).trans (hb.mono (by simp; omega)))
  have hsz : w.heap.size + 1 < w1.heap.size := by have := hb.size; simp at this; omega
  clear hb
  go_wp2_with fail
  refine (below_yes _ _ _ hk0 h1).mono ?_
  rintro e w2 ⟨rfl, rfl⟩
  go_wp2
  go_quiet (fail)
  go_wp2_with fail
  have HQ1 := Lib.hid (blw_draws HB.out nq)
  refine (fresh_any _ _ _ (s.drop 1) _ (hR1.out.below HQ1.out) (by rw [List.length_drop, HLS.out]) (by omega)).mono ?_
  rintro e w3 ⟨g1, rfl, hg1, hk1, hb1⟩
  obtain ⟨hc3, hf3⟩ := blw_reads hb1
  have hsz3 : w.heap.size + 1 < w3.heap.size := by have := hb1.size; simp at this; omega
  have HB3 := Lib.hid (HQ1.out.trans (hb1.mono (by have := HQ1.out.size; exact this)))
  have HK1 := Lib.hid hk1
  have hg1' : w.heap.size ≤ g1 := by simp at hg1; omega
  have hg1'' : w.heap.size + 1 < g1 := by simp at hg1; omega
  clear hb1 hk1 hg1
  go_wp2_with fail
  refine (fresh_any _ _ _ ((d.drop m1).take q) _ (hR2.out.below HB3.out) (by rw [List.length_take, List.length_drop, HLD.out, HM1.out]; have := HF.out; rw [← HQ.out, HLD.out, Nat.add_mul] at this; omega) (by omega)).mono ?_
  rintro e w4 ⟨g2, rfl, hg2, hk2, hb2⟩
  obtain ⟨hc4, hf4⟩ := blw_reads hb2
  have HK2 := Lib.hid hk2
  have HK1' := Lib.hid (HK1.out.below hb2)
  have hsz4 : w.heap.size + 1 < w4.heap.size := by have := hb2.size; omega
  have HB4 := Lib.hid (HB3.out.trans (hb2.mono HB3.out.size))
  have hg2' : w.heap.size ≤ g2 := by omega
  have hg2'' : w.heap.size + 1 < g2 := by omega
  have hw4 : ∀ o, w4.cell? ⟨w.heap.size + 1, o, none⟩ = w2.cell? ⟨w.heap.size + 1, o, none⟩ := fun o => (hc4 _ o hsz3).trans (hc3 _ o hsz)
  have hv4 : ∀ o, w4.frozen? ⟨w.heap.size + 1, o, none⟩ = w2.frozen? ⟨w.heap.size + 1, o, none⟩ := fun o => (hf4 _ o hsz3).trans (hf3 _ o hsz)
  have q0 : w4.cell? ⟨w.heap.size + 1, 0, none⟩ = some (.slice none 0 0) := by rw [hw4, hc _ _ (by simp)]; go_simp
  have q1 : w4.cell? ⟨w.heap.size + 1, 1, none⟩ = some (.slice none 0 0) := by rw [hw4, hc _ _ (by simp)]; go_simp
  have p0 : w4.frozen? ⟨w.heap.size + 1, 0, none⟩ = false := by rw [hv4, hf _ _ (by simp)]; go_simp
  have p1 : w4.frozen? ⟨w.heap.size + 1, 1, none⟩ = false := by rw [hv4, hf _ _ (by simp)]; go_simp
  clear hb2 hk2 hg2 hc3 hf3 hc4 hf4 hc hf hw4 hv4
  go_wp2
  refine bodyPost_ret (v := .tuple #[.agg #[.slice (some ⟨g1, 0, none⟩) (ns - 1) (ns - 1), .slice (some ⟨g2, 0, none⟩) q q], .int .i64 0]) (by simp [results, Try.results19, go_sem, q0, q1]) rfl (HGD.out _ _ _ _ _ (by rw [HLS.out]) HQ.out hg1' hg2' ?_ ?_ ?_)
  · exact (HK1'.out.far (by simp; omega) _).far (by simp; omega) _
  · rw [← HQ.out, ← HM1.out]
    exact (HK2.out.far (by simp; omega) _).far (by simp; omega) _
  · exact (HB4.out.setCell (by simp) _).setCell (by simp) _
set_option maxRecDepth 20000 in
theorem cell_any (As : Option Addr) (ns cs : Nat) (Ad : Option Addr) (nd cd : Nat) (k : Int) (s d : List Int) (w : World) (h : ArU w As ns cs Ad nd cd s d) :
    Calls Try.prog 19 #[.agg #[.slice As ns cs, .slice Ad nd cd], .int .i64 k] w (CellR w (ceR s d k)) := by
  cases hr : rightB s d with
  | false => exact cell_form As ns cs Ad nd cd k s d w h hr
  | true =>
    by_cases hk : 0 < s.length ∧ 0 ≤ k ∧ k < ith s 0
    · obtain ⟨n, rfl⟩ := Int.eq_ofNat_of_zero_le hk.2.1
      exact cell_good As ns cs Ad nd cd n s d w h hr hk.1 hk.2.2
    · exact cell_none As ns cs Ad nd cd k s d w h hr hk
end Go.Proofs.Ytedfjmidcljmoaa
