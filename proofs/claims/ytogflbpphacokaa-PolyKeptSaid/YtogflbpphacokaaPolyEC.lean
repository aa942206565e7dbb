/- Contracts: the document's side, size. -/
import Derived.Test.YtogflbpphacokaaPolyEB
namespace Go.Proofs.Ytogflbpphacokaa
open Go.RowKit

theorem DV_ith {ds : List Int} (h : dimsOk ds = true) {k : Nat} (hk : k < ds.length) : ((DV ds k : Nat) : Int) = ith ds k := by
  have := dims_rng h (getD_mem hk); unfold DV; omega
theorem DV_none {ds : List Int} {k : Nat} (hk : ¬ k < ds.length) : DV ds k = 0 := by
  unfold DV ith; rw [List.getD_eq_getElem?_getD, List.getElem?_eq_none (by omega)]; rfl
set_option maxHeartbeats 400000 in
theorem side_any (A : Option Addr) (ds : List Int) (c k : Nat) (w : World) (h : RdI w w.heap.size A ds) (ho : dimsOk ds = true) : Calls Try.prog 50 #[.slice A ds.length c, .int .i64 k] w fun e w' => e = .returned (.int .i64 (DV ds k : Nat)) ∧ w' = w := by
  have h6 := dims_len ho
  by_cases hlt : k < ds.length
  · obtain ⟨b, o, rfl, hb, hc⟩ := h.2 (by omega)
    have c0 := hc k hlt
    have HD := Lib.hid (DV_ith ho hlt)
    clear hc h ho
    go_enter Try.func50, Try.ntmps50
    go_wp2
    go_ret
    exact ⟨by rw [HD.out]; rfl, rfl⟩
  · have HD := Lib.hid (DV_none hlt)
    clear h ho
    go_enter Try.func50, Try.ntmps50
    go_wp2
    go_ret
    exact ⟨by rw [HD.out]; rfl, rfl⟩

/-- No variable that is asked for is 0. -/
def Pos (D : Nat → Nat) (m : Mo) : Prop := ∀ k, k < 6 → 0 < m.e k → 0 < D k
theorem pow_ge {d i j : Nat} (h : 0 < j → 0 < d) (hij : i ≤ j) : d ^ i ≤ d ^ j := by
  rcases Nat.eq_zero_or_pos j with h0 | h0
  · subst h0; obtain rfl : i = 0 := by omega
    exact Nat.le_refl _
  · exact Nat.pow_le_pow_right (h h0) hij
theorem mon_ge {D : Nat → Nat} {m : Mo} (hp : Pos D m) : ∀ (d k : Nat), k + d ≤ 6 → monTo D m k ≤ monTo D m (k + d)
  | 0, k, _ => Nat.le_refl _
  | d + 1, k, h => by
    have h1 : monTo D m k ≤ monTo D m (k + 1) := by
      have : D k ^ 0 ≤ D k ^ (m.e k).toNat := pow_ge (fun hj => hp k (by omega) (by omega)) (Nat.zero_le _)
      simp only [monTo]
      exact Nat.le_trans (Nat.le_of_eq (Nat.mul_one _).symm) (Nat.mul_le_mul_left _ this)
    have h2 := mon_ge hp d (k + 1) (by omega)
    rw [show k + (d + 1) = k + 1 + d from by omega]
    exact Nat.le_trans h1 h2
theorem size_ge {D : Nat → Nat} {m : Mo} (hp : Pos D m) {k i : Nat} (hk : k < 6) (hi : (i : Int) ≤ m.e k) : m.n.natAbs * monTo D m k * D k ^ i ≤ sizeM D m := by
  have h1 : D k ^ i ≤ D k ^ (m.e k).toNat := pow_ge (fun hj => hp k hk (by omega)) (by omega)
  have h2 : monTo D m k * D k ^ i ≤ monTo D m (k + 1) := Nat.mul_le_mul_left _ h1
  have h3 := mon_ge hp (5 - k) (k + 1) (by omega)
  rw [show k + 1 + (5 - k) = 6 from by omega] at h3
  unfold sizeM mon
  rw [Nat.mul_assoc]
  exact Nat.mul_le_mul_left _ (Nat.le_trans h2 h3)
theorem mon_zero {D : Nat → Nat} {m : Mo} {k : Nat} (he : 0 < m.e k) (hd : D k = 0) : ∀ d : Nat, monTo D m (k + 1 + d) = 0
  | 0 => by simp only [monTo, hd]; rw [Nat.zero_pow (by omega), Nat.mul_zero]
  | d + 1 => by rw [show k + 1 + (d + 1) = (k + 1 + d) + 1 from by omega]; simp only [monTo]; rw [mon_zero he hd d, Nat.zero_mul]
theorem size_zero {D : Nat → Nat} {m : Mo} {k : Nat} (hk : k < 6) (he : 0 < m.e k) (hd : D k = 0) : satN (sizeM D m) = 0 := by
  have h := mon_zero he hd (5 - k)
  rw [show k + 1 + (5 - k) = 6 from by omega] at h
  unfold sizeM mon; rw [h, Nat.mul_zero]; rfl

/-- The product so far: k variables whole, the next one i times. -/
def partN (D : Nat → Nat) (m : Mo) (k i : Nat) : Nat := m.n.natAbs * monTo D m k * D k ^ i
theorem part_step (D : Nat → Nat) (m : Mo) (k i : Nat) : partN D m k (i + 1) = partN D m k i * D k := by
  unfold partN; rw [Nat.pow_succ, Nat.mul_assoc (m.n.natAbs * monTo D m k)]
theorem part_next (D : Nat → Nat) (m : Mo) {k i : Nat} (h : (i : Int) = m.e k) : partN D m (k + 1) 0 = partN D m k i := by
  unfold partN; rw [Nat.pow_zero, Nat.mul_one, Nat.mul_assoc]; simp only [monTo]; rw [show (m.e k).toNat = i from by omega]
theorem part_zero (D : Nat → Nat) (m : Mo) : partN D m 0 0 = m.n.natAbs := by
  unfold partN; simp [monTo]
theorem part_six (D : Nat → Nat) (m : Mo) : partN D m 6 0 = sizeM D m := by
  unfold partN sizeM mon; rw [Nat.pow_zero, Nat.mul_one]
theorem part_le {D : Nat → Nat} {m : Mo} (hp : Pos D m) {k i : Nat} (hk : k < 6) (hi : (i : Int) ≤ m.e k) : partN D m k i ≤ sizeM D m := size_ge hp hk hi
theorem quo_lt {n d : Nat} (hd : 0 < d) (h : (4611686018427387904 : Int) / (d : Int) < (n : Int)) : 4611686018427387904 < n * d := by
  have h1 : 4611686018427387904 / d < n := by
    have : (4611686018427387904 : Int) / (d : Int) = ((4611686018427387904 / d : Nat) : Int) := rfl
    omega
  exact (Nat.div_lt_iff_lt_mul hd).1 h1
theorem quo_le {n d : Nat} (hd : 0 < d) (h : ¬ (4611686018427387904 : Int) / (d : Int) < (n : Int)) : n * d ≤ 4611686018427387904 := by
  have h1 : n ≤ 4611686018427387904 / d := by
    have : (4611686018427387904 : Int) / (d : Int) = ((4611686018427387904 / d : Nat) : Int) := rfl
    omega
  exact (Nat.le_div_iff_mul_le hd).1 h1

set_option maxHeartbeats 2000000 in
theorem refsize_any (m : Mo) (hm : m.wf) (hn : -4611686018427387904 ≤ m.n ∧ m.n ≤ 4611686018427387904) (A : Option Addr) (ds : List Int) (c : Nat) (w : World) (h : RdI w w.heap.size A ds) (ho : dimsOk ds = true) :
    Calls Try.prog 46 #[.agg #[.int .i64 m.n, .int .u8 m.e0, .int .u8 m.e1, .int .u8 m.e2, .int .u8 m.e3, .int .u8 m.e4, .int .u8 m.e5], .slice A ds.length c] w fun e w' => e = .returned (.int .i64 (satN (sizeM (DV ds) m) : Nat)) ∧ Gr w w' := by
  have HN := Lib.hid hn
  have HM := Lib.hid hm
  have HR := Lib.hid (h.gr ((Gr.refl w).alloc (.cells #[.int .i64 m.n, .int .u8 m.e0, .int .u8 m.e1, .int .u8 m.e2, .int .u8 m.e3, .int .u8 m.e4, .int .u8 m.e5] 44)))
  have HD := Lib.hid ho
  clear hm h ho
  obtain ⟨hn1, hn2⟩ := hn
  go_enter Try.func46, Try.ntmps46
  go_wp2
  all_goals
    go_loop [6] (fun i => ∃ k : Nat, k ≤ 6 ∧ i = .int .i64 k ∧ ∀ j, j < k → 0 < m.e j → 0 < DV ds j) (fun i => 6 - (intOf i).toNat)
    case atStart => exact ⟨0, by omega, rfl, fun j hj => by omega⟩
    case round =>
      obtain ⟨k, hk, rfl, hok⟩ := hrel
      have HK := Lib.hid hok
      clear hok
      by_cases hlt : k < 6
      · have hc := boxcell m k hlt w
        have he := HM.out.2 k
        by_cases h1 : 0 < m.e k
        · by_cases h2 : DV ds k = 0
          · have hz := Lib.hid (size_zero hlt h1 h2)
            have h3 : (DV ds k == 0) = true := by simpa using h2
            clear h2
            go_wp2_with (go_at_call 50; refine (side_any A ds c k _ HR.out HD.out).mono ?_; rintro e w' ⟨rfl, rfl⟩)
            go_ret
            exact ⟨by rw [hz.out]; rfl, (Gr.refl _).alloc _⟩
          · have h3 : (DV ds k == 0) = false := by simpa using h2
            have h4 : 0 < DV ds k := by omega
            clear h2
            go_wp2_with (go_at_call 50; refine (side_any A ds c k _ HR.out HD.out).mono ?_; rintro e w' ⟨rfl, rfl⟩)
            go_round
            case rel => exact ⟨k + 1, by omega, by go_num, fun j hj hje => by
              rcases Nat.lt_or_ge j k with h3 | h3
              · exact HK.out j h3 hje
              · obtain rfl : j = k := by omega
                exact h4⟩
            case measure => simp [intOf]; omega
        · go_wp2_with (go_at_call 50; refine (side_any A ds c k _ HR.out HD.out).mono ?_; rintro e w' ⟨rfl, rfl⟩)
          go_round
          case rel => exact ⟨k + 1, by omega, by go_num, fun j hj hje => by
            rcases Nat.lt_or_ge j k with h3 | h3
            · exact HK.out j h3 hje
            · obtain rfl : j = k := by omega
              exact absurd hje h1⟩
          case measure => simp [intOf]; omega
      · obtain rfl : k = 6 := by omega
        have HP := Lib.hid (show Pos (DV ds) m from HK.out)
        clear HK
        go_wp2
        go_loop [5, 7] (fun n kk => ∃ k : Nat, k ≤ 6 ∧ kk = .int .i64 k ∧ n = .int .i64 (partN (DV ds) m k 0 : Nat) ∧ partN (DV ds) m k 0 ≤ 4611686018427387904) (fun _ kk => 6 - (intOf kk).toNat)
        case atStart => exact ⟨0, by omega, rfl, by rw [part_zero]; congr 1; omega, by rw [part_zero]; omega⟩
        case round =>
          obtain ⟨k, hk2, rfl, rfl, hle⟩ := hrel
          by_cases hlt2 : k < 6
          · have hc := boxcell m k hlt2 w
            have he := HM.out.2 k
            go_wp2
            go_loop [5, 8] (fun n j => ∃ i : Nat, (i : Int) ≤ m.e k ∧ j = .int .i64 i ∧ n = .int .i64 (partN (DV ds) m k i : Nat) ∧ partN (DV ds) m k i ≤ 4611686018427387904) (fun _ j => (m.e k - intOf j).toNat)
            case atStart => exact ⟨0, by omega, rfl, rfl, hle⟩
            case round =>
              obtain ⟨i, hi2, rfl, rfl, hle2⟩ := hrel
              clear hle
              by_cases hlt3 : (i : Int) < m.e k
              · have hd : 0 < DV ds k := HP.out k hlt2 (by omega)
                have hdl := DV_le HD.out k
                by_cases hq : (4611686018427387904 : Int) / (DV ds k : Int) < (partN (DV ds) m k i : Nat)
                · have hz := Lib.hid (show satN (sizeM (DV ds) m) = 4611686018427387905 from if_neg (by
                    have h1 := quo_lt hd hq
                    rw [← part_step] at h1
                    have h2 := part_le HP.out hlt2 (i := i + 1) (by omega)
                    omega))
                  go_wp2_with (go_at_call 50; refine (side_any A ds c k _ HR.out HD.out).mono ?_; rintro e w' ⟨rfl, rfl⟩)
                  go_ret
                  exact ⟨by rw [hz.out]; rfl, (Gr.refl _).alloc _⟩
                · have hq2 := quo_le hd hq
                  have HQ := Lib.hid hq2
                  have hw : IntKind.i64.wrap ((partN (DV ds) m k i : Nat) * (DV ds k : Nat) : Int) = ((partN (DV ds) m k i : Nat) : Int) * (DV ds k : Nat) := IntWalk.i64_in _ (by
                    rw [← Int.natCast_mul]; omega)
                  clear hq2
                  go_wp2_with (go_at_call 50; refine (side_any A ds c k _ HR.out HD.out).mono ?_; rintro e w' ⟨rfl, rfl⟩)
                  go_round
                  case rel => exact ⟨i + 1, by omega, by go_num, by rw [part_step, Int.natCast_mul], by rw [part_step]; exact HQ.out⟩
                  case measure => simp [intOf]; omega
              · have HN2 := Lib.hid (part_next (DV ds) m (k := k) (i := i) (by omega))
                have HL := Lib.hid hle2
                clear hle2
                go_wp2
                go_round
                case rel => exact ⟨k + 1, by omega, by go_num, by rw [HN2.out], by rw [HN2.out]; exact HL.out⟩
                case measure => simp [intOf]; omega
          · obtain rfl : k = 6 := by omega
            have hz := Lib.hid (show satN (sizeM (DV ds) m) = partN (DV ds) m 6 0 by rw [part_six] at hle ⊢; exact if_pos hle)
            clear hle
            go_wp2
            go_ret
            exact ⟨by rw [hz.out]; rfl, (Gr.refl _).alloc _⟩
end Go.Proofs.Ytogflbpphacokaa
