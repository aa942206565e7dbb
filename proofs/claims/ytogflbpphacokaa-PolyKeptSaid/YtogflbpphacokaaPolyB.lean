/- Contracts: Right, Grows, Covers, of the package and of the document's answers. -/
import Derived.Shelf.SlSortCmp.QuietGrown
import Derived.Test.YtogflbpphacokaaPolyA
namespace Go.Proofs.Ytogflbpphacokaa
open Go.RowKit

theorem mixedOrders : Try.prog.follows .mixedOrders = true := by kernel_rfl

/-- The slice value at A reads as the monomials l, below block B. -/
def Rd (w : World) (B : Nat) (A : Option Addr) (l : List Mo) : Prop :=
  (∀ m ∈ l, m.wf) ∧ (0 < l.length → ∃ b o, A = some ⟨b, o, none⟩ ∧ b < B ∧ ∀ i j, i < l.length → j < 7 → w.cell? ⟨b, o + i * 7 + j, none⟩ = some ((nth l i).cell j))
def Cells7 (w : World) (b o : Nat) (m : Mo) : Prop :=
  w.cell? ⟨b, o, none⟩ = some (.int .i64 m.n) ∧ w.cell? ⟨b, o + 1, none⟩ = some (.int .u8 m.e0) ∧ w.cell? ⟨b, o + 2, none⟩ = some (.int .u8 m.e1) ∧ w.cell? ⟨b, o + 3, none⟩ = some (.int .u8 m.e2) ∧ w.cell? ⟨b, o + 4, none⟩ = some (.int .u8 m.e3) ∧ w.cell? ⟨b, o + 5, none⟩ = some (.int .u8 m.e4) ∧ w.cell? ⟨b, o + 6, none⟩ = some (.int .u8 m.e5)
theorem Rd.at_ {w : World} {B : Nat} {A : Option Addr} {l : List Mo} (h : Rd w B A l) (k : Nat) (hk : k < l.length) : ∃ b o, A = some ⟨b, o, none⟩ ∧ b < B ∧ ∀ i, i < l.length → (nth l i).wf ∧ Cells7 w b (o + i * 7) (nth l i) := by
  obtain ⟨b, o, rfl, hb, hc⟩ := h.2 (by omega)
  exact ⟨b, o, rfl, hb, fun i hi => ⟨h.1 _ (nth_mem hi), hc i 0 hi (by omega), hc i 1 hi (by omega), hc i 2 hi (by omega), hc i 3 hi (by omega), hc i 4 hi (by omega), hc i 5 hi (by omega), hc i 6 hi (by omega)⟩⟩
theorem Cells7.gr {w w' : World} {b o : Nat} {m : Mo} (h : Cells7 w b o m) (hb : b < w.heap.size) (hg : Gr w w') : Cells7 w' b o m := by
  unfold Cells7 at *
  simp only [hg.cell hb]
  exact h
theorem idxM (b o len c : Nat) (i : Int) (h0 : 0 ≤ i) (h1 : i < len) (w : World) : (Instr.indexAt 22 (.slice (some ⟨b, o, none⟩) len c) (.int .i64 i)).run Try.prog w = .ok (.pointer (some ⟨b, o + i.toNat * 7, none⟩)) w := by
  have e := WideShapes.add_plain b o (i.toNat * 7)
  go_simp
theorem Cells7.box (w : World) (m : Mo) : Cells7 (w.alloc (.cells #[.int .i64 m.n, .int .u8 m.e0, .int .u8 m.e1, .int .u8 m.e2, .int .u8 m.e3, .int .u8 m.e4, .int .u8 m.e5] 44)) w.heap.size 0 m := by
  refine ⟨?_, ?_, ?_, ?_, ?_, ?_, ?_⟩ <;> (go_simp <;> rfl)
theorem Gr.lt {w w' : World} (h : Gr w w') {b : Nat} (hb : b < w.heap.size) : b < w'.heap.size := Nat.lt_of_lt_of_le hb h.below.size
theorem ok_good {l : List Mo} {k : Nat} (h : goodB (nth l k) = false) : okAt l k = false := by simp [okAt, h]
theorem ok_step {l : List Mo} {k : Nat} (hok : ∀ j, j < k → okAt l j = true) (h : okAt l k = true) : ∀ j, j < k + 1 → okAt l j = true := fun j hj => by
  rcases Nat.lt_or_ge j k with h1 | h1
  · exact hok j h1
  · obtain rfl : j = k := by omega
    exact h

set_option maxHeartbeats 1000000 in
theorem right_any (A : Option Addr) (l : List Mo) (c : Nat) (w : World) (h : Rd w w.heap.size A l) (hl : l.length ≤ maxLen) : Calls Try.prog 13 #[.slice A l.length c] w fun e w' => e = .returned (.bool (rightB l)) ∧ Gr w w' := by
  unfold maxLen at hl
  by_cases h48 : l.length ≤ 48
  · have H := Lib.hid h
    clear h
    go_enter Try.func13, Try.ntmps13
    go_wp2
    go_loopw [10] (fun i wr => ∃ k : Nat, k ≤ l.length ∧ i = .int .i64 k ∧ (∀ j, j < k → okAt l j = true) ∧ Gr w wr) (fun i _ => l.length - (intOf i).toNat)
    case atStart => exact ⟨0, by omega, rfl, fun j hj => by omega, Gr.refl _⟩
    case round =>
      obtain ⟨k, hk, rfl, hok, hg⟩ := hrel
      have HK := Lib.hid hok
      clear hok
      by_cases hlt : k < l.length
      · obtain ⟨b, o, rfl, hb, hc⟩ := H.out.at_ k hlt
        obtain ⟨hwf, hck⟩ := hc k hlt
        obtain ⟨h0, h1, h2, h3, h4, h5, h6⟩ := hck.gr hb hg
        have HC := Lib.hid hc
        have HW := Lib.hid hwf
        have HG := Lib.hid hg
        clear hc hwf hg hck
        have hq : Hid (∀ n os, Cells7 (Go.Sort.grow (w.drewN n) os) b (o + k * 7) (nth l k)) := fun n os => (HC.out k hlt).2.gr hb ⟨n, os, rfl⟩
        by_cases g1 : (nth l k).n = 0
        · have hf := Lib.hid (right_not hlt (ok_good (by simp [goodB, g1])))
          have g1 : ((nth l k).n == 0) = true := by simpa using g1
          go_wp2_with (first | (go_at_call 33; refine (fits_any _ _).mono ?_; rintro e w' ⟨rfl, rfl⟩) | (go_at_call 34; refine (degree_any (nth l k) HW.out _).mono ?_; rintro e W ⟨rfl, hg1⟩))
          go_ret
          exact ⟨ret_bool hf.out.symm, HG.out.alloc _⟩
        have G1 := Lib.hid g1
        clear g1
        by_cases g2 : fitsB (nth l k).n = true
        rotate_left
        · have hf := Lib.hid (right_not hlt (ok_good (by simp [goodB, g2])))
          have g1 : ((nth l k).n == 0) = false := by simpa using G1.out
          have g2 : fitsB (nth l k).n = false := by simpa using g2
          go_wp2_with (first | (go_at_call 33; refine (fits_any _ _).mono ?_; rintro e w' ⟨rfl, rfl⟩) | (go_at_call 34; refine (degree_any (nth l k) HW.out _).mono ?_; rintro e W ⟨rfl, hg1⟩))
          go_ret
          exact ⟨ret_bool hf.out.symm, HG.out.alloc _⟩
        have G2 := Lib.hid g2
        clear g2
        by_cases g3 : (nth l k).deg ≤ 8
        rotate_left
        · have hf := Lib.hid (right_not hlt (ok_good (by simp [goodB, g3])))
          have g1 : ((nth l k).n == 0) = false := by simpa using G1.out
          have g2 : fitsB (nth l k).n = true := G2.out
          go_wp2_with (first | (go_at_call 33; refine (fits_any _ _).mono ?_; rintro e w' ⟨rfl, rfl⟩) | (go_at_call 34; refine (degree_any (nth l k) HW.out _).mono ?_; rintro e W ⟨rfl, hg1⟩))
          go_ret
          exact ⟨ret_bool hf.out.symm, (HG.out.alloc _).trans hg1⟩
        have G3 := Lib.hid (show goodB (nth l k) = true by rw [goodB, G2.out]; simp [G1.out, g3])
        have g1 : ((nth l k).n == 0) = false := by simpa using G1.out
        have g2 : fitsB (nth l k).n = true := G2.out
        have mo := mixedOrders
        by_cases hk0 : k = 0
        · have hz := Lib.hid (show okAt l k = true by unfold okAt; rw [G3.out]; simp [hk0])
          have hk1 : decide (0 < k) = false := by simpa using hk0
          clear hk0
          go_wp2_with (first | (go_at_call 33; refine (fits_any _ _).mono ?_; rintro e w' ⟨rfl, rfl⟩) | (go_at_call 34; refine (degree_any (nth l k) HW.out _).mono ?_; rintro e W ⟨rfl, hg1⟩))
          go_quiet (fail)
          go_wp2
          go_roundw
          case rel => exact ⟨k + 1, by omega, by go_num, ok_step HK.out hz.out, ((HG.out.alloc _).trans hg1).drewN _⟩
          case measure => simp [intOf]; omega
        · have hk1 : decide (0 < k) = true := by simp; omega
          have hk2 : (0 : Int) ≤ (k : Int) - 1 := by omega
          have hwp := Lib.hid (HC.out (k - 1) (by omega)).1
          by_cases hlc : (nth l k).code < (nth l (k - 1)).code
          · have hr := cmpI_lt hlc
            have hz := Lib.hid (show okAt l k = true by unfold okAt; rw [G3.out]; simp [hlc])
            clear hlc
            go_wp2_with (first | (go_at_call 33; refine (fits_any _ _).mono ?_; rintro e w' ⟨rfl, rfl⟩) | (go_at_call 34; refine (degree_any (nth l k) HW.out _).mono ?_; rintro e W ⟨rfl, hg1⟩))
            have hb2 : b < W.heap.size := ((HG.out.alloc _).trans hg1).lt hb
            have hb3 : wr.heap.size < W.heap.size := hg1.lt (by simp)
            have hN := fun n os => (((HC.out (k - 1) (by omega)).2.gr hb (HG.out.alloc _ |>.trans hg1)).gr (hb2) ⟨n, os, rfl⟩ : Cells7 (Go.Sort.grow (W.drewN n) os) b (o + (k - 1) * 7) (nth l (k - 1)))
            have hM := fun n os => (((Cells7.box wr (nth l k)).gr (by simp) hg1).gr (hb3) ⟨n, os, rfl⟩ : Cells7 (Go.Sort.grow (W.drewN n) os) wr.heap.size 0 (nth l k))
            have n0 := fun n os => (hN n os).1
            have n1 := fun n os => (hN n os).2.1
            have n2 := fun n os => (hN n os).2.2.1
            have n3 := fun n os => (hN n os).2.2.2.1
            have n4 := fun n os => (hN n os).2.2.2.2.1
            have n5 := fun n os => (hN n os).2.2.2.2.2.1
            have n6 := fun n os => (hN n os).2.2.2.2.2.2
            have m0 := fun n os => (hM n os).1
            have m1 := fun n os => (hM n os).2.1
            have m2 := fun n os => (hM n os).2.2.1
            have m3 := fun n os => (hM n os).2.2.2.1
            have m4 := fun n os => (hM n os).2.2.2.2.1
            have m5 := fun n os => (hM n os).2.2.2.2.2.1
            have m6 := fun n os => (hM n os).2.2.2.2.2.2
            have HH := Lib.hid hg1
            clear hN hM hg1
            have q2 : ((k : Int) - 1).toNat = k - 1 := by omega
            have q3 := idxM b o l.length c ((k : Int) - 1) (by omega) (by omega)
            rw [q2] at q3
            clear q2
            have q1 : IntKind.i64.wrap (↑k - 1) = ↑k - 1 := IntWalk.i64_in _ (by omega)
            go_quiet_grown ((go_at_call 35; exact Calls.grown_of (falling_any (nth l (k - 1)) (nth l k) hwp.out HW.out _)))
            clear q1 q3 n0 n1 n2 n3 n4 n5 n6 m0 m1 m2 m3 m4 m5 m6
            go_wp2
            go_roundw
            case rel => exact ⟨k + 1, by omega, by go_num, ok_step HK.out hz.out, ((HG.out.alloc _).trans HH.out).trans ⟨_, _, rfl⟩⟩
            case measure => simp [intOf]; omega
          · have hr := show (decide (0 ≤ cmpI (nth l k).code (nth l (k - 1)).code)) = true by simp [cmpI, hlc]; split <;> omega
            have hf := Lib.hid (right_not hlt (show okAt l k = false by unfold okAt; rw [G3.out]; simp [hlc]; omega))
            clear hlc
            go_wp2_with (first | (go_at_call 33; refine (fits_any _ _).mono ?_; rintro e w' ⟨rfl, rfl⟩) | (go_at_call 34; refine (degree_any (nth l k) HW.out _).mono ?_; rintro e W ⟨rfl, hg1⟩))
            have hb2 : b < W.heap.size := ((HG.out.alloc _).trans hg1).lt hb
            have hb3 : wr.heap.size < W.heap.size := hg1.lt (by simp)
            have hN := fun n os => (((HC.out (k - 1) (by omega)).2.gr hb (HG.out.alloc _ |>.trans hg1)).gr (hb2) ⟨n, os, rfl⟩ : Cells7 (Go.Sort.grow (W.drewN n) os) b (o + (k - 1) * 7) (nth l (k - 1)))
            have hM := fun n os => (((Cells7.box wr (nth l k)).gr (by simp) hg1).gr (hb3) ⟨n, os, rfl⟩ : Cells7 (Go.Sort.grow (W.drewN n) os) wr.heap.size 0 (nth l k))
            have n0 := fun n os => (hN n os).1
            have n1 := fun n os => (hN n os).2.1
            have n2 := fun n os => (hN n os).2.2.1
            have n3 := fun n os => (hN n os).2.2.2.1
            have n4 := fun n os => (hN n os).2.2.2.2.1
            have n5 := fun n os => (hN n os).2.2.2.2.2.1
            have n6 := fun n os => (hN n os).2.2.2.2.2.2
            have m0 := fun n os => (hM n os).1
            have m1 := fun n os => (hM n os).2.1
            have m2 := fun n os => (hM n os).2.2.1
            have m3 := fun n os => (hM n os).2.2.2.1
            have m4 := fun n os => (hM n os).2.2.2.2.1
            have m5 := fun n os => (hM n os).2.2.2.2.2.1
            have m6 := fun n os => (hM n os).2.2.2.2.2.2
            have HH := Lib.hid hg1
            clear hN hM hg1
            have q2 : ((k : Int) - 1).toNat = k - 1 := by omega
            have q3 := idxM b o l.length c ((k : Int) - 1) (by omega) (by omega)
            rw [q2] at q3
            clear q2
            have q1 : IntKind.i64.wrap (↑k - 1) = ↑k - 1 := IntWalk.i64_in _ (by omega)
            go_quiet_grown ((go_at_call 35; exact Calls.grown_of (falling_any (nth l (k - 1)) (nth l k) hwp.out HW.out _)))
            clear q1 q3 n0 n1 n2 n3 n4 n5 n6 m0 m1 m2 m3 m4 m5 m6
            go_wp2
            go_ret
            exact ⟨ret_bool hf.out.symm, ((HG.out.alloc _).trans HH.out).trans ⟨_, _, rfl⟩⟩
      · obtain rfl : k = l.length := by omega
        have hz := Lib.hid (right_all h48 HK.out)
        go_wp2
        go_ret
        exact ⟨ret_bool hz.out.symm, hg⟩
  · have hr := Lib.hid (right_long h48)
    go_enter Try.func13, Try.ntmps13
    go_wp2
    go_ret
    exact ⟨ret_bool hr.out.symm, Gr.refl _⟩

theorem fits_lo {n : Int} (h : n < -16777216) : fitsB n = false := by simp [fitsB]; omega
theorem fits_hi {n : Int} (h : 16777216 < n) : fitsB n = false := by simp [fitsB]; omega
theorem fits_yes {n : Int} (h : ¬ n < -16777216) (h2 : ¬ 16777216 < n) : fitsB n = true := by simp [fitsB]; omega
set_option maxHeartbeats 1000000 in
theorem refright_any (A : Option Addr) (l : List Mo) (c : Nat) (w : World) (h : Rd w w.heap.size A l) (hl : l.length ≤ maxLen) : Calls Try.prog 16 #[.slice A l.length c] w fun e w' => e = .returned (.bool (rightB l)) ∧ Gr w w' := by
  unfold maxLen at hl
  by_cases h48 : l.length ≤ 48
  · have H := Lib.hid h
    clear h
    go_enter Try.func16, Try.ntmps16
    go_wp2
    go_loopw [3] (fun i wr => ∃ k : Nat, k ≤ l.length ∧ i = .int .i64 k ∧ (∀ j, j < k → okAt l j = true) ∧ Gr w wr) (fun i _ => l.length - (intOf i).toNat)
    case atStart => exact ⟨0, by omega, rfl, fun j hj => by omega, Gr.refl _⟩
    case round =>
      obtain ⟨k, hk, rfl, hok, hg⟩ := hrel
      have HK := Lib.hid hok
      clear hok
      by_cases hlt : k < l.length
      · obtain ⟨b, o, rfl, hb, hc⟩ := H.out.at_ k hlt
        obtain ⟨hwf, hck⟩ := hc k hlt
        obtain ⟨h0, h1, h2, h3, h4, h5, h6⟩ := hck.gr hb hg
        have HC := Lib.hid hc
        have HW := Lib.hid hwf
        have HG := Lib.hid hg
        clear hc hwf hg hck
        by_cases g1 : (nth l k).n = 0
        · have hf := Lib.hid (right_not hlt (ok_good (by simp [goodB, g1])))
          have g1 : ((nth l k).n == 0) = true := by simpa using g1
          go_wp2_with (first | (go_at_call 36; refine (refdegree_any (nth l k) HW.out _).mono ?_; rintro e W ⟨rfl, hg1⟩))
          go_ret
          exact ⟨ret_bool hf.out.symm, HG.out⟩
        have G1 := Lib.hid g1
        clear g1
        by_cases g2 : 16777216 < (nth l k).n
        · have hf := Lib.hid (right_not hlt (ok_good (by simp [goodB, fits_hi g2])))
          have g1 : ((nth l k).n == 0) = false := by simpa using G1.out
          go_wp2_with (first | (go_at_call 36; refine (refdegree_any (nth l k) HW.out _).mono ?_; rintro e W ⟨rfl, hg1⟩))
          go_ret
          exact ⟨ret_bool hf.out.symm, HG.out⟩
        by_cases g4 : (nth l k).n < -16777216
        · have hf := Lib.hid (right_not hlt (ok_good (by simp [goodB, fits_lo g4])))
          have g1 : ((nth l k).n == 0) = false := by simpa using G1.out
          go_wp2_with (first | (go_at_call 36; refine (refdegree_any (nth l k) HW.out _).mono ?_; rintro e W ⟨rfl, hg1⟩))
          go_ret
          exact ⟨ret_bool hf.out.symm, HG.out⟩
        by_cases g3 : (nth l k).deg ≤ 8
        rotate_left
        · have hf := Lib.hid (right_not hlt (ok_good (by simp [goodB, g3])))
          have g1 : ((nth l k).n == 0) = false := by simpa using G1.out
          go_wp2_with (first | (go_at_call 36; refine (refdegree_any (nth l k) HW.out _).mono ?_; rintro e W ⟨rfl, hg1⟩))
          go_ret
          exact ⟨ret_bool hf.out.symm, HG.out.trans hg1⟩
        have G3 := Lib.hid (show goodB (nth l k) = true by rw [goodB, fits_yes g4 g2]; simp [G1.out, g3])
        have g1 : ((nth l k).n == 0) = false := by simpa using G1.out
        have mo := mixedOrders
        by_cases hk0 : k = 0
        · have hz := Lib.hid (show okAt l k = true by unfold okAt; rw [G3.out]; simp [hk0])
          have hk1 : decide (0 < k) = false := by simpa using hk0
          clear hk0
          go_wp2_with (first | (go_at_call 36; refine (refdegree_any (nth l k) HW.out _).mono ?_; rintro e W ⟨rfl, hg1⟩))
          go_quiet (fail)
          go_wp2
          go_roundw
          case rel => exact ⟨k + 1, by omega, by go_num, ok_step HK.out hz.out, (HG.out.trans hg1).drewN _⟩
          case measure => simp [intOf]; omega
        · have hk1 : decide (0 < k) = true := by simp; omega
          have hk2 : (0 : Int) ≤ (k : Int) - 1 := by omega
          have hwp := Lib.hid (HC.out (k - 1) (by omega)).1
          by_cases hlc : (nth l k).code < (nth l (k - 1)).code
          · have hr := cmpI_gt hlc
            have hz := Lib.hid (show okAt l k = true by unfold okAt; rw [G3.out]; simp [hlc])
            clear hlc
            go_wp2_with (first | (go_at_call 36; refine (refdegree_any (nth l k) HW.out _).mono ?_; rintro e W ⟨rfl, hg1⟩))
            have hb2 : b < W.heap.size := (HG.out.trans hg1).lt hb
            have hN := fun n os => (((HC.out (k - 1) (by omega)).2.gr hb (HG.out.trans hg1)).gr hb2 ⟨n, os, rfl⟩ : Cells7 (Go.Sort.grow (W.drewN n) os) b (o + (k - 1) * 7) (nth l (k - 1)))
            have hM := fun n os => (((HC.out k hlt).2.gr hb (HG.out.trans hg1)).gr hb2 ⟨n, os, rfl⟩ : Cells7 (Go.Sort.grow (W.drewN n) os) b (o + k * 7) (nth l k))
            have n0 := fun n os => (hN n os).1
            have n1 := fun n os => (hN n os).2.1
            have n2 := fun n os => (hN n os).2.2.1
            have n3 := fun n os => (hN n os).2.2.2.1
            have n4 := fun n os => (hN n os).2.2.2.2.1
            have n5 := fun n os => (hN n os).2.2.2.2.2.1
            have n6 := fun n os => (hN n os).2.2.2.2.2.2
            have m0 := fun n os => (hM n os).1
            have m1 := fun n os => (hM n os).2.1
            have m2 := fun n os => (hM n os).2.2.1
            have m3 := fun n os => (hM n os).2.2.2.1
            have m4 := fun n os => (hM n os).2.2.2.2.1
            have m5 := fun n os => (hM n os).2.2.2.2.2.1
            have m6 := fun n os => (hM n os).2.2.2.2.2.2
            have HH := Lib.hid hg1
            clear hN hM hg1
            have q2 : ((k : Int) - 1).toNat = k - 1 := by omega
            have q3 := idxM b o l.length c ((k : Int) - 1) (by omega) (by omega)
            rw [q2] at q3
            clear q2
            have q4 := idxM b o l.length c (k : Int) (by omega) (by omega)
            rw [Int.toNat_natCast] at q4
            have q1 : IntKind.i64.wrap (↑k - 1) = ↑k - 1 := IntWalk.i64_in _ (by omega)
            go_quiet_grown ((go_at_call 37; exact Calls.grown_of (above_any (nth l (k - 1)) (nth l k) hwp.out HW.out _)))
            clear q1 q3 q4 n0 n1 n2 n3 n4 n5 n6 m0 m1 m2 m3 m4 m5 m6
            go_wp2
            go_roundw
            case rel => exact ⟨k + 1, by omega, by go_num, ok_step HK.out hz.out, (HG.out.trans HH.out).trans ⟨_, _, rfl⟩⟩
            case measure => simp [intOf]; omega
          · have hr : (cmpI (nth l (k - 1)).code (nth l k).code == 1) = false := by simp [cmpI]; (repeat' split) <;> omega
            have hf := Lib.hid (right_not hlt (show okAt l k = false by unfold okAt; rw [G3.out]; simp [hlc]; omega))
            clear hlc
            go_wp2_with (first | (go_at_call 36; refine (refdegree_any (nth l k) HW.out _).mono ?_; rintro e W ⟨rfl, hg1⟩))
            have hb2 : b < W.heap.size := (HG.out.trans hg1).lt hb
            have hN := fun n os => (((HC.out (k - 1) (by omega)).2.gr hb (HG.out.trans hg1)).gr hb2 ⟨n, os, rfl⟩ : Cells7 (Go.Sort.grow (W.drewN n) os) b (o + (k - 1) * 7) (nth l (k - 1)))
            have hM := fun n os => (((HC.out k hlt).2.gr hb (HG.out.trans hg1)).gr hb2 ⟨n, os, rfl⟩ : Cells7 (Go.Sort.grow (W.drewN n) os) b (o + k * 7) (nth l k))
            have n0 := fun n os => (hN n os).1
            have n1 := fun n os => (hN n os).2.1
            have n2 := fun n os => (hN n os).2.2.1
            have n3 := fun n os => (hN n os).2.2.2.1
            have n4 := fun n os => (hN n os).2.2.2.2.1
            have n5 := fun n os => (hN n os).2.2.2.2.2.1
            have n6 := fun n os => (hN n os).2.2.2.2.2.2
            have m0 := fun n os => (hM n os).1
            have m1 := fun n os => (hM n os).2.1
            have m2 := fun n os => (hM n os).2.2.1
            have m3 := fun n os => (hM n os).2.2.2.1
            have m4 := fun n os => (hM n os).2.2.2.2.1
            have m5 := fun n os => (hM n os).2.2.2.2.2.1
            have m6 := fun n os => (hM n os).2.2.2.2.2.2
            have HH := Lib.hid hg1
            clear hN hM hg1
            have q2 : ((k : Int) - 1).toNat = k - 1 := by omega
            have q3 := idxM b o l.length c ((k : Int) - 1) (by omega) (by omega)
            rw [q2] at q3
            clear q2
            have q4 := idxM b o l.length c (k : Int) (by omega) (by omega)
            rw [Int.toNat_natCast] at q4
            have q1 : IntKind.i64.wrap (↑k - 1) = ↑k - 1 := IntWalk.i64_in _ (by omega)
            go_quiet_grown ((go_at_call 37; exact Calls.grown_of (above_any (nth l (k - 1)) (nth l k) hwp.out HW.out _)))
            clear q1 q3 q4 n0 n1 n2 n3 n4 n5 n6 m0 m1 m2 m3 m4 m5 m6
            go_wp2
            go_ret
            exact ⟨ret_bool hf.out.symm, (HG.out.trans HH.out).trans ⟨_, _, rfl⟩⟩
      · obtain rfl : k = l.length := by omega
        have hz := Lib.hid (right_all h48 HK.out)
        go_wp2
        go_ret
        exact ⟨ret_bool hz.out.symm, hg⟩
  · have hr := Lib.hid (right_long h48)
    go_enter Try.func16, Try.ntmps16
    go_wp2
    go_ret
    exact ⟨ret_bool hr.out.symm, Gr.refl _⟩
end Go.Proofs.Ytogflbpphacokaa
