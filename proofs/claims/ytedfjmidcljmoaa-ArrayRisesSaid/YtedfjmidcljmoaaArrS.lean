
/- Contracts: the same arrays; the laws' head (layer 6). -/
import Derived.Test.YtedfjmidcljmoaaArrK
namespace Go.Proofs.Ytedfjmidcljmoaa
open Go.RowKit
set_option linter.unusedVariables false
set_option linter.unusedSimpArgs false
set_option maxHeartbeats 1000000 in
theorem same_any (As : Option Addr) (ns cs : Nat) (Ad : Option Addr) (nd cd : Nat) (s d : List Int) (Bs : Option Addr) (ms es : Nat) (Bd : Option Addr) (md ed : Nat) (t f : List Int) (w : World) (h : ArU w As ns cs Ad nd cd s d) (g : ArU w Bs ms es Bd md ed t f) :
    Calls Try.prog 23 #[.agg #[.slice As ns cs, .slice Ad nd cd], .agg #[.slice Bs ms es, .slice Bd md ed]] w (BoolB w (eqA s t && eqA d f)) := by
  have H := Lib.hid h
  have G := Lib.hid g
  clear h g
  have q1 : ns ≤ 9223372036854775807 := by have := H.out.hs; have := H.out.ms; omega
  have q2 : ms ≤ 9223372036854775807 := by have := G.out.hs; have := G.out.ms; omega
  have q3 : nd ≤ 9223372036854775807 := by have := H.out.hd; have := H.out.md; omega
  have q4 : md ≤ 9223372036854775807 := by have := G.out.hd; have := G.out.md; omega
  have hb : Below w.heap.size w _ := ((Below.refl w.heap.size w).alloc (Nat.le_refl _) (.cells #[.slice As ns cs, .slice Ad nd cd] 24)).alloc (by simp) (.cells #[.slice Bs ms es, .slice Bd md ed] 24)
  have HB := Lib.hid hb
  clear hb
  cases he : eqA s t with
  | false =>
    have HE := Lib.hid he
    clear he
    go_enter Try.func23, Try.ntmps23
    go_wp2_with fail
    refine (ints_any _ _ _ _ _ _ s t _ (H.out.below HB.out).rs (G.out.below HB.out).rs H.out.ls G.out.ls q1 q2).mono ?_
    rintro e w2 ⟨rfl, n2, rfl⟩
    rw [HE.out]
    go_wp2
    go_ret
    exact ⟨rfl, blw_draws HB.out n2⟩
  | true =>
    have HE := Lib.hid he
    clear he
    rw [Bool.true_and]
    obtain ⟨v, hv⟩ : ∃ v, v = eqA d f := ⟨_, rfl⟩
    rw [← hv]
    have HV := Lib.hid hv
    clear hv
    go_enter Try.func23, Try.ntmps23
    go_wp2_with fail
    refine (ints_any _ _ _ _ _ _ s t _ (H.out.below HB.out).rs (G.out.below HB.out).rs H.out.ls G.out.ls q1 q2).mono ?_
    intro e w2 hw2
    obtain ⟨rfl, hb2⟩ := hw2.b
    obtain ⟨hc2, hf2⟩ := blw_reads hb2
    rw [HE.out]
    have HB2 := Lib.hid (HB.out.trans (hb2.mono HB.out.size))
    clear hw2 hb2
    go_wp2_with fail
    refine (ints_any _ _ _ _ _ _ d f _ (H.out.below HB2.out).rd (G.out.below HB2.out).rd H.out.ld G.out.ld q3 q4).mono ?_
    intro e w3 hw3
    rw [← HV.out] at hw3
    obtain ⟨rfl, hb3⟩ := hw3.b
    have HB3 := Lib.hid (HB2.out.trans (hb3.mono HB2.out.size))
    clear hw3 hb3
    cases v with
    | false =>
      go_wp2
      go_ret
      exact ⟨rfl, HB3.out⟩
    | true =>
      go_wp2
      go_ret
      exact ⟨rfl, HB3.out⟩
theorem shown1 : szR [2, 3] = (6, 0) := by decide
theorem shown2 : szR [512, 256] = (0, 61) := by decide
theorem shown3 : plR [2, 3] [1, 2] = (5, 0) := by decide
theorem shown4 : ixR [2, 3] 4 = ([1, 1], 0) := by decide
theorem shown5 : ceR [2, 3] [1, 2, 3, 4, 5, 6] 1 = (([3], [4, 5, 6]), 0) := by decide
def litW (w : World) (l : List Int) : World := w.alloc (.cells (l.map fun x => Value.int .i64 x).toArray 2)
theorem rd_lit (w : World) (l : List Int) (h : ∀ x ∈ l, rngA x) : RdA (litW w l) (some ⟨w.heap.size, 0, none⟩) l := (BkA.rd (g := w.heap.size) (heap_alloc_new w _) h)
theorem blw_lit (w : World) (l : List Int) : Below w.heap.size w (litW w l) := (Below.refl _ _).alloc (Nat.le_refl _) _
def smallB (l : List Int) : Bool := l.all fun x => decide (-1000000 ≤ x) && decide (x ≤ 1000000)
theorem small_rng {l : List Int} (h : smallB l = true) : ∀ x ∈ l, rngA x := fun x hx => by
  unfold smallB at h
  rw [List.all_eq_true] at h
  have := h x hx
  rw [Bool.and_eq_true, decide_eq_true_eq, decide_eq_true_eq] at this
  unfold rngA; omega
theorem size_lit (w : World) (l : List Int) : (litW w l).heap.size = w.heap.size + 1 := by simp [litW]
set_option maxRecDepth 100000 in
set_option maxHeartbeats 1000000 in
theorem shown_any (w : World) : Calls Try.prog 9 #[] w fun e w' => e = .returned (.bool true) ∧ Below w.heap.size w w' := by
  go_enter Try.func9, Try.ntmps9
  go_wp2_with fail
  have c1 := size_any (some ⟨w.heap.size, 0, none⟩) [2, 3] 2 2 (litW w [2, 3]) (rd_lit w _ (small_rng rfl)) rfl (by unfold maxLen; omega)
  rw [shown1] at c1
  refine c1.mono ?_
  clear c1
  rintro e w1 ⟨rfl, hw1⟩
  have B1 : Hid (Below w.heap.size w w1) := by rw [hw1]; exact blw_lit w _
  clear hw1
  go_wp2_with fail
  have c1 := size_any (some ⟨w1.heap.size, 0, none⟩) [512, 256] 2 2 (litW w1 [512, 256]) (rd_lit w1 _ (small_rng rfl)) rfl (by unfold maxLen; omega)
  rw [shown2] at c1
  refine c1.mono ?_
  clear c1
  rintro e w2 ⟨rfl, hw2⟩
  have B2 : Hid (Below w.heap.size w w2) := by rw [hw2]; exact B1.out.trans ((blw_lit w1 _).mono B1.out.size)
  clear hw2
  go_wp2_with fail
  have c1 := place_any (some ⟨w2.heap.size, 0, none⟩) 2 2 (some ⟨(litW w2 [2, 3]).heap.size, 0, none⟩) 2 2 [2, 3] [1, 2] (litW (litW w2 [2, 3]) [1, 2]) ((rd_lit w2 _ (small_rng rfl)).below (blw_lit _ _)) (rd_lit _ _ (small_rng rfl)) rfl rfl (by omega) (by omega)
  rw [shown3, size_lit] at c1
  refine c1.mono ?_
  clear c1
  rintro e w3 hw3
  obtain ⟨rfl, hb⟩ := hw3.b
  have B3 := Lib.hid (B2.out.trans (((blw_lit w2 [2, 3]).trans ((blw_lit (litW w2 [2, 3]) [1, 2]).mono (blw_lit w2 [2, 3]).size)).mono B2.out.size))
  replace B3 := Lib.hid (B3.out.trans (hb.mono B3.out.size))
  clear hw3 hb
  go_wp2_with fail
  have c1 := index_any (some ⟨w3.heap.size, 0, none⟩) 2 2 4 [2, 3] (litW w3 [2, 3]) (rd_lit w3 _ (small_rng rfl)) rfl (by omega)
  rw [shown4] at c1
  refine c1.mono ?_
  clear c1
  rintro e w4 ⟨A4, m4, c4, rfl, hm4, _, _, hr4, hb⟩
  have B4 := Lib.hid (B3.out.trans ((blw_lit w3 [2, 3]).mono B3.out.size))
  replace B4 := Lib.hid (B4.out.trans (hb.mono B4.out.size))
  obtain rfl : 2 = m4 := hm4
  have R4 := Lib.hid hr4
  clear hb hr4
  go_wp2_with fail
  have c1 := cell_any (some ⟨w4.heap.size, 0, none⟩) 2 2 (some ⟨(litW w4 [2, 3]).heap.size, 0, none⟩) 6 6 1 [2, 3] [1, 2, 3, 4, 5, 6] (litW (litW w4 [2, 3]) [1, 2, 3, 4, 5, 6]) ⟨(rd_lit w4 _ (small_rng rfl)).below (blw_lit _ _), rd_lit _ _ (small_rng rfl), rfl, rfl, by omega, by omega, by omega, by omega⟩
  rw [shown5, size_lit] at c1
  refine c1.mono ?_
  clear c1
  rintro e w5 ⟨As, ns, cs, Ad, nd, cd, rfl, hu, _, _, hb⟩
  have hb4 : Below w4.heap.size w4 w5 := ((blw_lit w4 [2, 3]).trans ((blw_lit (litW w4 [2, 3]) [1, 2, 3, 4, 5, 6]).mono (blw_lit w4 [2, 3]).size)).trans (hb.mono (Nat.le_trans (blw_lit w4 [2, 3]).size (blw_lit (litW w4 [2, 3]) [1, 2, 3, 4, 5, 6]).size))
  have B5 := Lib.hid (B4.out.trans (hb4.mono B4.out.size))
  replace R4 := Lib.hid (R4.out.below hb4)
  have hns : 1 = ns := hu.ls
  have hnd : 3 = nd := hu.ld
  subst hns hnd
  have U5 := Lib.hid hu
  clear hb4 hb hu
  go_wp2_with fail
  have hA := Lib.hid ((Below.refl w5.heap.size w5).alloc (Nat.le_refl _) (.cells #[.slice As 1 cs, .slice Ad 3 cd] 24))
  have hL := Lib.hid (hA.out.trans ((blw_lit (w5.alloc (.cells #[.slice As 1 cs, .slice Ad 3 cd] 24)) [1, 1]).mono (by simp)))
  have c1 := ints_any A4 2 c4 (some ⟨(w5.alloc (.cells #[.slice As 1 cs, .slice Ad 3 cd] 24)).heap.size, 0, none⟩) 2 2 [1, 1] [1, 1] (litW (w5.alloc (.cells #[.slice As 1 cs, .slice Ad 3 cd] 24)) [1, 1]) (R4.out.below hL.out) (rd_lit _ _ (small_rng rfl)) rfl rfl (by omega) (by omega)
  rw [show eqA [1, 1] [1, 1] = true by decide, show (w5.alloc (.cells #[.slice As 1 cs, .slice Ad 3 cd] 24)).heap.size = w5.heap.size + 1 by simp] at c1
  refine c1.mono ?_
  clear c1
  intro e w6 hw6
  obtain ⟨rfl, hb6⟩ := hw6.b
  have t0 : w6.cell? ⟨w5.heap.size, 0, none⟩ = some (.slice As 1 cs) := by
    rw [hb6.cell (p := ⟨w5.heap.size, 0, none⟩) (by simp [litW]; omega)]; unfold litW; go_simp
  have t1 : w6.cell? ⟨w5.heap.size, 1, none⟩ = some (.slice Ad 3 cd) := by
    rw [hb6.cell (p := ⟨w5.heap.size, 1, none⟩) (by simp [litW]; omega)]; unfold litW; go_simp
  have hs6 : w5.heap.size < w6.heap.size := by have := hb6.size; simp [litW] at this; omega
  have hL6 := Lib.hid (hL.out.trans (hb6.mono hL.out.size))
  have B6 := Lib.hid (B5.out.trans (hL6.out.mono B5.out.size))
  clear hw6 hb6
  go_wp2_with fail
  have hM := Lib.hid ((blw_lit w6 [3]).trans ((blw_lit (litW w6 [3]) [4, 5, 6]).mono (blw_lit w6 [3]).size))
  have c1 := same_any As 1 cs Ad 3 cd [3] [4, 5, 6] (some ⟨w6.heap.size, 0, none⟩) 1 1 (some ⟨(litW w6 [3]).heap.size, 0, none⟩) 3 3 [3] [4, 5, 6] (litW (litW w6 [3]) [4, 5, 6]) ((U5.out.below hL6.out).below hM.out) ⟨(rd_lit w6 _ (small_rng rfl)).below (blw_lit _ _), rd_lit _ _ (small_rng rfl), rfl, rfl, by omega, by omega, by omega, by omega⟩
  rw [show (eqA [3] [3] && eqA [4, 5, 6] [4, 5, 6]) = true by decide, size_lit] at c1
  refine c1.mono ?_
  clear c1
  rintro e w7 ⟨rfl, hb7⟩
  have B7 := Lib.hid (B6.out.trans ((hM.out.trans (hb7.mono hM.out.size)).mono B6.out.size))
  clear hb7
  go_wp2
  go_ret
  exact ⟨rfl, B7.out⟩
end Go.Proofs.Ytedfjmidcljmoaa
