
/- Contracts: places (layer 6). -/
import Derived.Test.YtedfjmidcljmoaaArrB
import Derived.Test.YtedfjmidcljmoaaArrQ
namespace Go.Proofs.Ytedfjmidcljmoaa
open Go.RowKit
set_option linter.unusedVariables false
theorem be_more {s i : List Int} {k : Nat} (h : beA s i k) (g : 0 ≤ ith i k ∧ ith i k < ith s k) : beA s i (k + 1) := fun j hj => by
  rcases Nat.lt_or_ge j k with h3 | h3
  · exact h j h3
  · obtain rfl : j = k := by omega
    exact g
def PairQ (w : World) (r : Int × Int) (e : Ending) (w' : World) : Prop := e = .returned (.tuple #[.int .i64 r.1, .int .i64 r.2]) ∧ ∃ n, w' = w.drewN n
theorem PairQ.b {w w' : World} {r : Int × Int} {e : Ending} (h : PairQ w r e w') : e = .returned (.tuple #[.int .i64 r.1, .int .i64 r.2]) ∧ Below w.heap.size w w' := by
  obtain ⟨rfl, n, rfl⟩ := h
  exact ⟨rfl, blw_draws (Below.refl _ _) n⟩
set_option maxHeartbeats 1000000 in
theorem place_any (A : Option Addr) (n c : Nat) (B : Option Addr) (m d : Nat) (s i : List Int) (w : World) (h : RdA w A s) (g : RdA w B i) (hn : s.length = n) (hm : i.length = m) (ln : n ≤ 9223372036854775807) (lm : m ≤ 9223372036854775807) :
    Calls Try.prog 14 #[.slice A n c, .slice B m d] w (PairQ w (plR s i)) := by
  have H := Lib.hid h
  have G := Lib.hid g
  have HN := Lib.hid hn
  have HM := Lib.hid hm
  clear h g hn hm
  have hmx : n ≤ maxLen := by unfold maxLen; omega
  by_cases ho : okA s
  · have hy := Lib.hid (sz_yes ho)
    have HO := Lib.hid ho
    clear ho
    by_cases hl : n = m
    · subst hl
      have HL := Lib.hid (show i.length = s.length by rw [HN.out, HM.out])
      go_enter Try.func14, Try.ntmps14
      go_wp2_with fail
      refine (size_any _ s _ _ _ H.out HN.out hmx).mono ?_
      rintro e w' ⟨rfl, rfl⟩
      rw [hy.out]
      go_wp2
      go_loop [8, 26] (fun z i0 => ∃ (k : Nat) (p : Int), k ≤ n ∧ i0 = .int .i64 k ∧ z = .int .i64 p ∧ beA s i k ∧ p = hoA s i k) (fun _ i0 => n - (intOf i0).toNat)
      case atStart => exact ⟨0, 0, by omega, rfl, rfl, fun j hj => by omega, rfl⟩
      case round =>
        obtain ⟨k, p, hk, rfl, rfl, hok, hp⟩ := hrel
        have HK := Lib.hid hok
        have HP := Lib.hid hp
        clear hok hp
        by_cases hlt : k < n
        · have hlt1 : k < s.length := by rw [HN.out]; exact hlt
          have hlt2 : k < i.length := by rw [HM.out]; exact hlt
          obtain ⟨b1, o1, rfl, hb1, c1⟩ := H.out.at_ hlt1
          obtain ⟨b2, o2, rfl, hb2, c2⟩ := G.out.at_ hlt2
          obtain ⟨x, hx⟩ : ∃ x, x = ith s k := ⟨_, rfl⟩
          obtain ⟨y, hy'⟩ : ∃ y, y = ith i k := ⟨_, rfl⟩
          rw [← hx] at c1
          rw [← hy'] at c2
          have HX := Lib.hid hx
          have HY := Lib.hid hy'
          clear hx hy'
          by_cases hb : 0 ≤ y ∧ y < x
          · have hpb := ho_bound HO.out HL.out (show k ≤ s.length by omega) HK.out
            have hpm := ho_mul HO.out HL.out hlt1 HK.out (by rw [← HY.out]; exact hb.1) (by rw [← HY.out, ← HX.out]; exact hb.2)
            have hst := Lib.hid (ho_snoc HL.out hlt1)
            rw [← HP.out] at hpb hpm
            rw [← HX.out] at hpm
            have hxx := (ok_ith HO.out k).2
            rw [← HX.out] at hxx
            obtain ⟨hp1, hp2⟩ := hpb
            obtain ⟨hm1, hm2⟩ := hpm
            have hb1' := hb.1
            have hb2' := hb.2
            have HB := Lib.hid hb
            clear hlt1 hlt2 hb
            go_wp2_with fail
            refine (below_yes _ _ _ hb1' hb2').mono ?_
            rintro e w' ⟨rfl, rfl⟩
            go_wp2
            go_round
            case rel => exact ⟨k + 1, _, by omega, by go_num, rfl, be_more HK.out (by rw [← HY.out, ← HX.out]; exact HB.out), by rw [hst.out, ← HP.out, ← HX.out, ← HY.out]⟩
            case measure => simp [intOf]; omega
          · have hz := Lib.hid (pl_none HO.out (not_in_at hlt1 (by rw [← HY.out, ← HX.out]; exact hb)))
            have HB := Lib.hid hb
            clear hlt1 hlt2 hb
            go_wp2_with fail
            refine (below_no _ _ _ HB.out).mono ?_
            rintro e w' ⟨rfl, rfl⟩
            go_wp2
            go_ret2
            exact ⟨by rw [hz.out] <;> rfl, 0, rfl⟩
        · obtain rfl : k = n := by omega
          have hpe : p = plA s i := by rw [HP.out, ← HN.out, ho_end HL.out]
          have hz := Lib.hid (pl_yes HO.out (be_in HL.out (by rw [HN.out]; exact HK.out)))
          have HPE := Lib.hid hpe
          clear hpe
          go_wp2
          go_ret2
          exact ⟨by rw [hz.out, ← HPE.out] <;> rfl, 0, rfl⟩
    · have hz := Lib.hid (pl_none HO.out (not_in_len (s := s) (i := i) (by rw [HN.out, HM.out]; omega)))
      have hl1 : ((m : Int) != (n : Int)) = true := by
        simp only [bne_iff_ne]; omega
      go_enter Try.func14, Try.ntmps14
      go_wp2_with fail
      refine (size_any _ s _ _ _ H.out HN.out hmx).mono ?_
      rintro e w' ⟨rfl, rfl⟩
      rw [hy.out]
      go_wp2
      go_ret2
      exact ⟨by rw [hz.out] <;> rfl, 0, rfl⟩
  · have hy := Lib.hid (sz_no ho)
    have hz := Lib.hid (pl_no (i := i) ho)
    clear ho
    go_enter Try.func14, Try.ntmps14
    go_wp2_with fail
    refine (size_any _ s _ _ _ H.out HN.out hmx).mono ?_
    rintro e w' ⟨rfl, rfl⟩
    rw [hy.out]
    go_wp2
    go_ret2
    exact ⟨by rw [hz.out] <;> rfl, 0, rfl⟩
set_option maxHeartbeats 2000000 in
theorem refplace_any (A : Option Addr) (n c : Nat) (B : Option Addr) (m d : Nat) (s i : List Int) (w : World) (h : RdA w A s) (g : RdA w B i) (hn : s.length = n) (hm : i.length = m) (ln : n ≤ 9223372036854775807) (lm : m ≤ 9223372036854775807) :
    Calls Try.prog 15 #[.slice A n c, .slice B m d] w (PairQ w (plR s i)) := by
  have H := Lib.hid h
  have G := Lib.hid g
  have HN := Lib.hid hn
  have HM := Lib.hid hm
  clear h g hn hm
  have hmx : n ≤ maxLen := by unfold maxLen; omega
  by_cases ho : okA s
  · have hy := Lib.hid (sz_yes ho)
    have HO := Lib.hid ho
    clear ho
    by_cases hl : n = m
    · subst hl
      have HL := Lib.hid (show i.length = s.length by rw [HN.out, HM.out])
      go_enter Try.func15, Try.ntmps15
      go_wp2_with fail
      refine (refsize_any _ s _ _ _ H.out HN.out hmx).mono ?_
      rintro e w' ⟨rfl, rfl⟩
      rw [hy.out]
      go_wp2
      go_loopw [9] (fun i0 wr => ∃ (k q : Nat), k ≤ n ∧ i0 = .int .i64 k ∧ beA s i k ∧ wr = w'.drewN q) (fun i0 _ => n - (intOf i0).toNat)
      case atStart => exact ⟨0, 0, by omega, rfl, fun j hj => by omega, rfl⟩
      case round =>
        obtain ⟨k, q, hk, rfl, hok, rfl⟩ := hrel
        have HK := Lib.hid hok
        clear hok
        by_cases hlt : k < n
        · have hlt1 : k < s.length := by rw [HN.out]; exact hlt
          have hlt2 : k < i.length := by rw [HM.out]; exact hlt
          obtain ⟨b1, o1, rfl, hb1, c1⟩ := H.out.at_ hlt1
          obtain ⟨b2, o2, rfl, hb2, c2⟩ := G.out.at_ hlt2
          obtain ⟨x, hx⟩ : ∃ x, x = ith s k := ⟨_, rfl⟩
          obtain ⟨y, hy'⟩ : ∃ y, y = ith i k := ⟨_, rfl⟩
          rw [← hx] at c1
          rw [← hy'] at c2
          have HX := Lib.hid hx
          have HY := Lib.hid hy'
          clear hx hy'
          by_cases hb : 0 ≤ y ∧ y < x
          · have hb1' : decide (y < 0) = false := decide_eq_false (by omega)
            have hb2' : decide (x ≤ y) = false := decide_eq_false (by omega)
            have HB := Lib.hid hb
            clear hlt1 hlt2 hb
            go_wp2
            go_quiet (fail)
            go_wp2
            go_roundw
            case rel => exact ⟨k + 1, _, by omega, by go_num, be_more HK.out (by rw [← HY.out, ← HX.out]; exact HB.out), rfl⟩
            case measure => simp [intOf]; omega
          · have hz := Lib.hid (pl_none HO.out (not_in_at hlt1 (by rw [← HY.out, ← HX.out]; exact hb)))
            clear hlt1 hlt2
            by_cases h1 : y < 0
            · have hb1' : decide (y < 0) = true := decide_eq_true h1
              clear hb h1
              go_wp2
              go_quiet (fail)
              go_wp2
              go_ret2
              exact ⟨by rw [hz.out] <;> rfl, _, World.drewN_drewN _ _ _⟩
            · have hb1' : decide (y < 0) = false := decide_eq_false h1
              have hb2' : decide (x ≤ y) = true := decide_eq_true (by omega)
              clear hb h1
              go_wp2
              go_quiet (fail)
              go_wp2
              go_ret2
              exact ⟨by rw [hz.out] <;> rfl, _, World.drewN_drewN _ _ _⟩
        · obtain rfl : k = n := by omega
          have hz := Lib.hid (pl_yes HO.out (be_in HL.out (by rw [HN.out]; exact HK.out)))
          clear hlt
          go_wp2
          go_loopw [8, 10] (fun z i0 wr => ∃ (j r : Nat) (p : Int), j ≤ k ∧ i0 = .int .i64 j ∧ z = .int .i64 p ∧ p = hoA s i j ∧ wr = w'.drewN r) (fun _ i0 _ => k - (intOf i0).toNat)
          case atStart => exact ⟨0, q, 0, by omega, rfl, rfl, rfl, rfl⟩
          case round =>
            obtain ⟨j, r, p, hj, rfl, rfl, hp, rfl⟩ := hrel
            have HP := Lib.hid hp
            clear hp
            by_cases hlt : j < k
            · have hlt1 : j < s.length := by rw [HN.out]; exact hlt
              have hlt2 : j < i.length := by rw [HM.out]; exact hlt
              obtain ⟨b1, o1, rfl, hb1, c1⟩ := H.out.at_ hlt1
              obtain ⟨b2, o2, rfl, hb2, c2⟩ := G.out.at_ hlt2
              obtain ⟨x, hx⟩ : ∃ x, x = ith s j := ⟨_, rfl⟩
              obtain ⟨y, hy'⟩ : ∃ y, y = ith i j := ⟨_, rfl⟩
              rw [← hx] at c1
              rw [← hy'] at c2
              have HX := Lib.hid hx
              have HY := Lib.hid hy'
              clear hx hy'
              have hb : 0 ≤ y ∧ y < x := by rw [HY.out, HX.out]; exact HK.out j hlt
              have hbj : beA s i j := fun t ht => HK.out t (by omega)
              have hpb := ho_bound HO.out HL.out (show j ≤ s.length by omega) hbj
              have hpm := ho_mul HO.out HL.out hlt1 hbj (by rw [← HY.out]; exact hb.1) (by rw [← HY.out, ← HX.out]; exact hb.2)
              have hst := Lib.hid (ho_snoc HL.out hlt1)
              rw [← HP.out] at hpb hpm
              rw [← HX.out] at hpm
              have hxx := (ok_ith HO.out j).2
              rw [← HX.out] at hxx
              obtain ⟨hp1, hp2⟩ := hpb
              obtain ⟨hm1, hm2⟩ := hpm
              have hb1' := hb.1
              have hb2' := hb.2
              have e1 : IntKind.i64.wrap (p * x) = p * x := IntWalk.i64_in _ (by omega)
              have e2 : IntKind.i64.wrap (p * x + y) = p * x + y := IntWalk.i64_in _ (by omega)
              clear hlt1 hlt2 hb hbj
              go_wp2
              go_quiet (fail)
              go_wp2
              go_roundw
              case rel => exact ⟨j + 1, _, _, by omega, by go_num, rfl, by rw [hst.out, ← HP.out, ← HX.out, ← HY.out], rfl⟩
              case measure => simp [intOf]; omega
            · obtain rfl : j = k := by omega
              have hpe : p = plA s i := by rw [HP.out, ← HN.out, ho_end HL.out]
              have HPE := Lib.hid hpe
              clear hpe
              go_wp2
              go_ret2
              exact ⟨by rw [hz.out, ← HPE.out] <;> rfl, _, rfl⟩
    · have hz := Lib.hid (pl_none HO.out (not_in_len (s := s) (i := i) (by rw [HN.out, HM.out]; omega)))
      have hl1 : ((m : Int) != (n : Int)) = true := by
        simp only [bne_iff_ne]; omega
      go_enter Try.func15, Try.ntmps15
      go_wp2_with fail
      refine (refsize_any _ s _ _ _ H.out HN.out hmx).mono ?_
      rintro e w' ⟨rfl, rfl⟩
      rw [hy.out]
      go_wp2
      go_ret2
      exact ⟨by rw [hz.out] <;> rfl, 0, rfl⟩
  · have hy := Lib.hid (sz_no ho)
    have hz := Lib.hid (pl_no (i := i) ho)
    clear ho
    go_enter Try.func15, Try.ntmps15
    go_wp2_with fail
    refine (refsize_any _ s _ _ _ H.out HN.out hmx).mono ?_
    rintro e w' ⟨rfl, rfl⟩
    rw [hy.out]
    go_wp2
    go_ret2
    exact ⟨by rw [hz.out] <;> rfl, 0, rfl⟩
end Go.Proofs.Ytedfjmidcljmoaa
