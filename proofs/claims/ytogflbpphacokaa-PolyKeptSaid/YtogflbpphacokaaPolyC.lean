/- Contracts: Grows, Covers, Same, of the package and of the document's answers. -/
import Derived.Test.YtogflbpphacokaaPolyB
namespace Go.Proofs.Ytogflbpphacokaa
open Go.RowKit

def growsB (l : List Mo) : Bool := rightB l && l.all fun m => decide (0 ≤ m.n)
def coversB (l : List Mo) (n : Int) : Bool := growsB l && (decide (n ≤ 0) || (decide (0 < l.length) && (nth l (l.length - 1)).deg == 0 && decide (n ≤ (nth l (l.length - 1)).n)))
theorem grows_not {l : List Mo} {k : Nat} (hk : k < l.length) (h : (nth l k).n < 0) : growsB l = false := by
  rw [← Bool.not_eq_true]; unfold growsB; rw [Bool.and_eq_true, List.all_eq_true]
  intro hh; have := hh.2 _ (nth_mem hk); simp at this; omega
theorem grows_all {l : List Mo} (h : ∀ j, j < l.length → 0 ≤ (nth l j).n) : growsB l = rightB l := by
  unfold growsB
  have : l.all (fun m => decide (0 ≤ m.n)) = true := List.all_eq_true.2 fun m hm => by
    obtain ⟨j, hj, rfl⟩ := mem_nth hm
    simpa using h j hj
  rw [this, Bool.and_true]
theorem grows_right {l : List Mo} (h : rightB l = false) : growsB l = false := by unfold growsB; rw [h]; rfl
theorem all_step {l : List Mo} {k : Nat} (hok : ∀ j, j < k → 0 ≤ (nth l j).n) (h : 0 ≤ (nth l k).n) : ∀ j, j < k + 1 → 0 ≤ (nth l j).n := fun j hj => by
  rcases Nat.lt_or_ge j k with h1 | h1
  · exact hok j h1
  · obtain rfl : j = k := by omega
    exact h
theorem Rd.gr {w w' : World} {A : Option Addr} {l : List Mo} (h : Rd w w.heap.size A l) (hg : Gr w w') : Rd w' w'.heap.size A l :=
  ⟨h.1, fun hl => by
    obtain ⟨b, o, rfl, hb, hc⟩ := h.2 hl
    exact ⟨b, o, rfl, hg.lt hb, fun i j hi hj => (hg.cell hb).trans (hc i j hi hj)⟩⟩

set_option maxHeartbeats 1000000 in
theorem grows_any (A : Option Addr) (l : List Mo) (c : Nat) (w : World) (h : Rd w w.heap.size A l) (hl : l.length ≤ maxLen) : Calls Try.prog 14 #[.slice A l.length c] w fun e w' => e = .returned (.bool (growsB l)) ∧ Gr w w' := by
  have hl0 := hl
  unfold maxLen at hl
  cases hr : rightB l with
  | false =>
    have HR := Lib.hid (grows_right hr)
    go_enter Try.func14, Try.ntmps14
    go_wp2_with (go_at_call 13; refine (right_any _ _ _ _ h hl0).mono ?_; rintro e W ⟨rfl, hg1⟩)
    go_ret
    exact ⟨ret_bool HR.out.symm, hg1⟩
  | true =>
    have H := Lib.hid h
    clear h
    go_enter Try.func14, Try.ntmps14
    go_wp2_with (go_at_call 13; refine (right_any _ _ _ _ H.out hl0).mono ?_; rintro e W ⟨rfl, hg1⟩)
    go_loopw [10] (fun i wr => ∃ k : Nat, k ≤ l.length ∧ i = .int .i64 k ∧ (∀ j, j < k → 0 ≤ (nth l j).n) ∧ Gr w wr) (fun i _ => l.length - (intOf i).toNat)
    case atStart => exact ⟨0, by omega, rfl, fun j hj => by omega, hg1⟩
    case round =>
      obtain ⟨k, hk, rfl, hok, hg⟩ := hrel
      have HK := Lib.hid hok
      clear hok hg1
      by_cases hlt : k < l.length
      · obtain ⟨b, o, rfl, hb, hc⟩ := H.out.at_ k hlt
        obtain ⟨hwf, hck⟩ := hc k hlt
        obtain ⟨h0, h1, h2, h3, h4, h5, h6⟩ := hck.gr hb hg
        have HG := Lib.hid hg
        clear hc hwf hg hck
        by_cases g1 : (nth l k).n < 0
        · have hf := Lib.hid (grows_not hlt g1)
          go_wp2
          go_ret
          exact ⟨ret_bool hf.out.symm, HG.out.alloc _⟩
        · go_wp2
          go_roundw
          case rel => exact ⟨k + 1, by omega, by go_num, all_step HK.out (by omega), HG.out.alloc _⟩
          case measure => simp [intOf]; omega
      · obtain rfl : k = l.length := by omega
        have hz := Lib.hid ((grows_all HK.out).trans hr)
        go_wp2
        go_ret
        exact ⟨ret_bool hz.out.symm, hg⟩

set_option maxHeartbeats 1000000 in
theorem refgrows_any (A : Option Addr) (l : List Mo) (c : Nat) (w : World) (h : Rd w w.heap.size A l) (hl : l.length ≤ maxLen) : Calls Try.prog 17 #[.slice A l.length c] w fun e w' => e = .returned (.bool (growsB l)) ∧ Gr w w' := by
  have hl0 := hl
  unfold maxLen at hl
  have H := Lib.hid h
  clear h
  go_enter Try.func17, Try.ntmps17
  go_wp2
  go_loop [3] (fun i => ∃ k : Nat, k ≤ l.length ∧ i = .int .i64 k ∧ (∀ j, j < k → 0 ≤ (nth l j).n)) (fun i => l.length - (intOf i).toNat)
  case atStart => exact ⟨0, by omega, rfl, fun j hj => by omega⟩
  case round =>
    obtain ⟨k, hk, rfl, hok⟩ := hrel
    have HK := Lib.hid hok
    clear hok
    by_cases hlt : k < l.length
    · obtain ⟨b, o, rfl, hb, hc⟩ := H.out.at_ k hlt
      obtain ⟨hwf, hck⟩ := hc k hlt
      obtain ⟨h0, h1, h2, h3, h4, h5, h6⟩ := hck
      clear hc hwf
      by_cases g1 : (nth l k).n < 0
      · have hf := Lib.hid (grows_not hlt g1)
        go_wp2
        go_ret
        exact ⟨ret_bool hf.out.symm, Gr.refl _⟩
      · go_wp2
        go_round
        case rel => exact ⟨k + 1, by omega, by go_num, all_step HK.out (by omega)⟩
        case measure => simp [intOf]; omega
    · obtain rfl : k = l.length := by omega
      have hz := Lib.hid (grows_all HK.out)
      go_wp2_with (go_at_call 16; refine (refright_any _ _ _ _ H.out hl0).mono ?_; rintro e W ⟨rfl, hg1⟩)
      go_ret
      exact ⟨ret_bool hz.out.symm, hg1⟩

theorem covers_no {l : List Mo} {n : Int} (h : growsB l = false) : coversB l n = false := by unfold coversB; rw [h]; rfl
theorem covers_le {l : List Mo} {n : Int} (h : growsB l = true) (hn : n ≤ 0) : coversB l n = true := by unfold coversB; rw [h]; simp [hn]
theorem covers_nil {l : List Mo} {n : Int} (hn : ¬ n ≤ 0) (h0 : l.length = 0) : coversB l n = false := by unfold coversB; simp [hn, h0]
theorem covers_deg {l : List Mo} {n : Int} (hn : ¬ n ≤ 0) (hd : ((nth l (l.length - 1)).deg == 0) = false) : coversB l n = false := by unfold coversB; rw [hd]; simp [hn]
theorem covers_last {l : List Mo} {n : Int} (h : growsB l = true) (hn : ¬ n ≤ 0) (h0 : 0 < l.length) (hd : ((nth l (l.length - 1)).deg == 0) = true) : coversB l n = decide (n ≤ (nth l (l.length - 1)).n) := by unfold coversB; rw [h, hd]; simp [hn, h0]

set_option maxHeartbeats 1000000 in
theorem covers_any (A : Option Addr) (l : List Mo) (c : Nat) (n : Int) (w : World) (h : Rd w w.heap.size A l) (hl : l.length ≤ maxLen) : Calls Try.prog 15 #[.slice A l.length c, .int .i64 n] w fun e w' => e = .returned (.bool (coversB l n)) ∧ Gr w w' := by
  have hl0 := hl
  unfold maxLen at hl
  have H := Lib.hid h
  clear h
  cases hr : growsB l with
  | false =>
    have HR := Lib.hid (covers_no (n := n) hr)
    go_enter Try.func15, Try.ntmps15
    go_wp2_with (go_at_call 14; refine (grows_any _ _ _ _ H.out hl0).mono ?_; rintro e W ⟨rfl, hg1⟩)
    go_ret
    exact ⟨ret_bool HR.out.symm, hg1⟩
  | true =>
    by_cases hn : n ≤ 0
    · have HR := Lib.hid (covers_le (n := n) hr hn)
      go_enter Try.func15, Try.ntmps15
      go_wp2_with (go_at_call 14; refine (grows_any _ _ _ _ H.out hl0).mono ?_; rintro e W ⟨rfl, hg1⟩)
      go_ret
      exact ⟨ret_bool HR.out.symm, hg1⟩
    · by_cases h0 : l.length = 0
      · have HR := Lib.hid (covers_nil (n := n) hn h0)
        have hz : (l.length == 0) = true := by simpa using h0
        have H0 := Lib.hid h0
        clear h0
        go_enter Try.func15, Try.ntmps15
        go_wp2_with (go_at_call 14; refine (grows_any _ _ _ _ H.out hl0).mono ?_; rintro e W ⟨rfl, hg1⟩)
        go_ret
        exact ⟨ret_bool HR.out.symm, hg1⟩
      · have hz : (l.length == 0) = false := by simpa using h0
        have hpos : 0 < l.length := by omega
        obtain ⟨b, o, rfl, hb, hc⟩ := H.out.at_ (l.length - 1) (by omega)
        have HC := Lib.hid (hc (l.length - 1) (by omega))
        clear h0 hc
        cases hd : ((nth l (l.length - 1)).deg == 0) with
        | false =>
          have HR := Lib.hid (covers_deg hn hd)
          go_enter Try.func15, Try.ntmps15
          go_wp2_with (first | (go_at_call 14; refine (grows_any _ _ _ _ H.out hl0).mono ?_; rintro e W ⟨rfl, hg1⟩; obtain ⟨h0, h1, h2, h3, h4, h5, h6⟩ := HC.out.2.gr hb hg1) | (go_at_call 34; refine (degree_any (nth l (l.length - 1)) HC.out.1 _).mono ?_; rintro e W2 ⟨rfl, hg2⟩; obtain ⟨m0, m1, m2, m3, m4, m5, m6⟩ := (Cells7.box W (nth l (l.length - 1))).gr (by simp) hg2))
          go_ret
          exact ⟨ret_bool HR.out.symm, (hg1.alloc _).trans hg2⟩
        | true =>
          have HR := Lib.hid (covers_last hr hn hpos hd)
          go_enter Try.func15, Try.ntmps15
          go_wp2_with (first | (go_at_call 14; refine (grows_any _ _ _ _ H.out hl0).mono ?_; rintro e W ⟨rfl, hg1⟩; obtain ⟨h0, h1, h2, h3, h4, h5, h6⟩ := HC.out.2.gr hb hg1) | (go_at_call 34; refine (degree_any (nth l (l.length - 1)) HC.out.1 _).mono ?_; rintro e W2 ⟨rfl, hg2⟩; obtain ⟨m0, m1, m2, m3, m4, m5, m6⟩ := (Cells7.box W (nth l (l.length - 1))).gr (by simp) hg2))
          go_ret
          exact ⟨ret_bool HR.out.symm, (hg1.alloc _).trans hg2⟩

set_option maxHeartbeats 1000000 in
theorem refcovers_any (A : Option Addr) (l : List Mo) (c : Nat) (n : Int) (w : World) (h : Rd w w.heap.size A l) (hl : l.length ≤ maxLen) : Calls Try.prog 18 #[.slice A l.length c, .int .i64 n] w fun e w' => e = .returned (.bool (coversB l n)) ∧ Gr w w' := by
  have hl0 := hl
  unfold maxLen at hl
  have H := Lib.hid h
  clear h
  cases hr : growsB l with
  | false =>
    have HR := Lib.hid (covers_no (n := n) hr)
    go_enter Try.func18, Try.ntmps18
    go_wp2_with (go_at_call 17; refine (refgrows_any _ _ _ _ H.out hl0).mono ?_; rintro e W ⟨rfl, hg1⟩)
    go_ret
    exact ⟨ret_bool HR.out.symm, hg1⟩
  | true =>
    by_cases hn : n ≤ 0
    · have HR := Lib.hid (covers_le (n := n) hr hn)
      go_enter Try.func18, Try.ntmps18
      go_wp2_with (go_at_call 17; refine (refgrows_any _ _ _ _ H.out hl0).mono ?_; rintro e W ⟨rfl, hg1⟩)
      go_ret
      exact ⟨ret_bool HR.out.symm, hg1⟩
    · by_cases h0 : l.length = 0
      · have HR := Lib.hid (covers_nil (n := n) hn h0)
        have hz : ¬ 0 < l.length := by omega
        have H0 := Lib.hid h0
        clear h0
        go_enter Try.func18, Try.ntmps18
        go_wp2_with (go_at_call 17; refine (refgrows_any _ _ _ _ H.out hl0).mono ?_; rintro e W ⟨rfl, hg1⟩)
        go_ret
        exact ⟨ret_bool (by rw [HR.out]; simp [hn]), hg1⟩
      · have hpos : 0 < l.length := by omega
        obtain ⟨b, o, rfl, hb, hc⟩ := H.out.at_ (l.length - 1) (by omega)
        have HC := Lib.hid (hc (l.length - 1) (by omega))
        clear h0 hc
        cases hd : ((nth l (l.length - 1)).deg == 0) with
        | false =>
          have HR := Lib.hid (covers_deg hn hd)
          go_enter Try.func18, Try.ntmps18
          go_wp2_with (first | (go_at_call 17; refine (refgrows_any _ _ _ _ H.out hl0).mono ?_; rintro e W ⟨rfl, hg1⟩; obtain ⟨h0, h1, h2, h3, h4, h5, h6⟩ := HC.out.2.gr hb hg1) | (go_at_call 36; refine (refdegree_any (nth l (l.length - 1)) HC.out.1 _).mono ?_; rintro e W2 ⟨rfl, hg2⟩; obtain ⟨m0, m1, m2, m3, m4, m5, m6⟩ := HC.out.2.gr hb (hg1.trans hg2)))
          go_ret
          exact ⟨ret_bool (by rw [HR.out]; simp [hn]), hg1.trans hg2⟩
        | true =>
          have HR := Lib.hid (covers_last hr hn hpos hd)
          go_enter Try.func18, Try.ntmps18
          go_wp2_with (first | (go_at_call 17; refine (refgrows_any _ _ _ _ H.out hl0).mono ?_; rintro e W ⟨rfl, hg1⟩; obtain ⟨h0, h1, h2, h3, h4, h5, h6⟩ := HC.out.2.gr hb hg1) | (go_at_call 36; refine (refdegree_any (nth l (l.length - 1)) HC.out.1 _).mono ?_; rintro e W2 ⟨rfl, hg2⟩; obtain ⟨m0, m1, m2, m3, m4, m5, m6⟩ := HC.out.2.gr hb (hg1.trans hg2)))
          go_ret
          exact ⟨ret_bool (by rw [HR.out]; simp; omega), hg1.trans hg2⟩
end Go.Proofs.Ytogflbpphacokaa
