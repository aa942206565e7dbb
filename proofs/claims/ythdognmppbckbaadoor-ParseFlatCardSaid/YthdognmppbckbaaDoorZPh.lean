/- Layer 4, put together: ParTk, ParFl. -/
import Derived.Test.YthdognmppbckbaaDoorZPg
/- Contracts of the laws' helpers: word.Takes, takes. -/
namespace Go.Proofs.YthdognmppbckbaaDoor
open Go.RowKit
theorem wt1_yes (f : Int) (w : World) (h : tk1 f = true) : Calls Tryd.prog 54 #[.int .u8 f, .bool false] w fun e w' => e = .returned (.bool true) ∧ w' = w := by
  have hf : f = 1 ∨ f = 2 ∨ f = 3 ∨ f = 4 ∨ f = 5 ∨ f = 6 ∨ f = 7 ∨ f = 16 := by
    unfold tk1 at h; simp at h; omega
  clear h
  rcases hf with rfl | rfl | rfl | rfl | rfl | rfl | rfl | rfl <;>
  · go_enter Tryd.func54, Tryd.ntmps54
    go_wp2
    go_ret
    exact ⟨rfl, rfl⟩
theorem wt1_no (f : Int) (w : World) (h : 32 ≤ f) : Calls Tryd.prog 54 #[.int .u8 f, .bool false] w fun e w' => e = .returned (.bool false) ∧ w' = w := by
  have h1 : (f == 1) = false := by simp; omega
  have h2 : (f == 2) = false := by simp; omega
  have h3 : (f == 3) = false := by simp; omega
  have h4 : (f == 4) = false := by simp; omega
  have h5 : (f == 5) = false := by simp; omega
  have h6 : (f == 6) = false := by simp; omega
  have h7 : (f == 7) = false := by simp; omega
  have h8 : (f == 16) = false := by simp; omega
  clear h
  go_enter Tryd.func54, Tryd.ntmps54
  go_wp2
  go_ret
  exact ⟨rfl, rfl⟩
theorem wt2_yes (f : Int) (w : World) (h : tk2 f = true) : Calls Tryd.prog 54 #[.int .u8 f, .bool true] w fun e w' => e = .returned (.bool true) ∧ w' = w := by
  unfold tk2 at h
  simp only [Bool.and_eq_true, decide_eq_true_eq] at h
  have h1 : decide (1 ≤ f) = true := by simp; omega
  have h2 : decide (f ≤ 17) = true := by simp; omega
  have h3 : (f != 16) = true := h.2
  clear h
  go_enter Tryd.func54, Tryd.ntmps54
  go_wp2
  go_ret
  exact ⟨rfl, rfl⟩
theorem wt2_no (f : Int) (w : World) (h : 37 ≤ f) : Calls Tryd.prog 54 #[.int .u8 f, .bool true] w fun e w' => e = .returned (.bool false) ∧ w' = w := by
  have h1 : decide (1 ≤ f) = true := by simp; omega
  have h2 : decide (f ≤ 17) = false := by simp; omega
  clear h
  go_enter Tryd.func54, Tryd.ntmps54
  go_wp2
  go_ret
  exact ⟨rfl, rfl⟩
def itV (x : It) (A : Option Addr) (c : Nat) : Value := .agg #[.int .i64 x.how, .int .i64 x.pl, .int .u8 x.fn, .string (bs x.nm), .slice A x.ns.length c]
set_option maxHeartbeats 1000000 in
theorem takes_yes (x : It) (A : Option Addr) (c : Nat) (w : World) (h : takesI x = true) : Calls Tryd.prog 38 #[.agg #[.int .i64 x.how, .int .i64 x.pl, .int .u8 x.fn, .string (bs x.nm), .slice A x.ns.length c]] w fun e w' => e = .returned (.bool true) ∧ Below w.heap.size w w' := by
  unfold takesI at h
  by_cases h3 : x.how = 3
  · rw [if_pos h3] at h
    have e3 : (x.how == 3) = true := by simpa using h3
    cases ht : tk1 x.fn with
    | true =>
      have HT := Lib.hid ht
      clear h h3 ht
      go_enter Tryd.func38, Tryd.ntmps38
      go_wp2_with (go_at_call 54; refine (wt1_yes x.fn _ HT.out).mono ?_; rintro e w1 ⟨rfl, e1⟩; subst e1)
      go_ret
      exact ⟨rfl, up _⟩
    | false =>
      rw [ht, Bool.false_or, Bool.and_eq_true] at h
      have h1 : decide (32 ≤ x.fn) = true := h.1
      have h2 : decide (x.fn ≤ 36) = true := h.2
      have HT := Lib.hid (of_decide_eq_true h.1)
      clear h h3 ht
      go_enter Tryd.func38, Tryd.ntmps38
      go_wp2_with (go_at_call 54; refine (wt1_no x.fn _ HT.out).mono ?_; rintro e w1 ⟨rfl, e1⟩; subst e1)
      go_ret
      exact ⟨rfl, up _⟩
  · rw [if_neg h3] at h
    have e3 : (x.how == 3) = false := by simpa using h3
    by_cases h4 : x.how = 4
    · rw [if_pos h4] at h
      have e4 : (x.how == 4) = true := by simpa using h4
      cases ht : tk2 x.fn with
      | true =>
        have HT := Lib.hid ht
        clear h h3 h4 ht
        go_enter Tryd.func38, Tryd.ntmps38
        go_wp2_with (go_at_call 54; refine (wt2_yes x.fn _ HT.out).mono ?_; rintro e w1 ⟨rfl, e1⟩; subst e1)
        go_ret
        exact ⟨rfl, up _⟩
      | false =>
        rw [ht, Bool.false_or, Bool.and_eq_true] at h
        have h1 : decide (37 ≤ x.fn) = true := h.1
        have h2 : decide (x.fn ≤ 40) = true := h.2
        have HT := Lib.hid (of_decide_eq_true h.1)
        clear h h3 h4 ht
        go_enter Tryd.func38, Tryd.ntmps38
        go_wp2_with (go_at_call 54; refine (wt2_no x.fn _ HT.out).mono ?_; rintro e w1 ⟨rfl, e1⟩; subst e1)
        go_ret
        exact ⟨rfl, up _⟩
    · rw [if_neg h4] at h
      have e4 : (x.how == 4) = false := by simpa using h4
      have HT := Lib.hid h
      clear h h3 h4
      go_enter Tryd.func38, Tryd.ntmps38
      go_wp2_with (go_at_call 54; refine (wt2_yes x.fn _ HT.out).mono ?_; rintro e w1 ⟨rfl, e1⟩; subst e1)
      go_ret
      exact ⟨rfl, up _⟩
end Go.Proofs.YthdognmppbckbaaDoor
/- Contract of the law's flat: items that are an expression's. -/
namespace Go.Proofs.YthdognmppbckbaaDoor
open Go.RowKit
theorem neStr {l : List UInt8} (h : l ≠ []) : ((bs l).toList == []) = false := cmpNo h
set_option maxRecDepth 100000 in
set_option maxHeartbeats 6400000 in
theorem flat_any (A : Option Addr) (l : List It) (n c : Nat) (w : World) (hn : l.length = n) (h : RdIt w A l) (hr : runF l 0 = some 1) (hi : ∀ x ∈ l, ItOk x) (hb : ∀ x ∈ l, Sm 1000000 x) (hn7 : n ≤ 1000000) :
    Calls Tryd.prog 19 #[.slice A n c] w fun e w' => e = .returned (.bool true) ∧ Below w.heap.size w w' := by
  have H := Lib.hid h
  have HZ := Lib.hid (And.intro hn (And.intro hi hb))
  have HR := Lib.hid hr
  clear h hr hi hb hn
  go_enter Tryd.func19, Tryd.ntmps19
  go_wp2
  go_loopw [7, 3] (fun i s3 wr => ∃ k hv : Nat, k ≤ n ∧ hv ≤ k ∧ i = .int .i64 k ∧ s3 = .int .i64 hv ∧ Hid (runF (l.drop k) hv = some 1 ∧ Below w.heap.size w wr)) (fun i _ _ => n - (intOf i).toNat)
  case atStart => exact ⟨0, 0, by omega, by omega, rfl, rfl, HR.out, Below.refl _ _⟩
  case round =>
    obtain ⟨k, hv, hk, hvk, rfl, rfl, HB⟩ := hrel
    by_cases hlt : k < n
    · have hkl : k < l.length := by rw [HZ.out.1]; exact hlt
      obtain ⟨x, hx⟩ : ∃ x, x = l.getD k default := ⟨_, rfl⟩
      have hxe : x = l[k] := by rw [hx, List.getD_eq_getElem?_getD, List.getElem?_eq_getElem hkl]; rfl
      have hok := HZ.out.2.1 x (by rw [hxe]; exact List.getElem_mem hkl)
      have hsm := HZ.out.2.2 x (by rw [hxe]; exact List.getElem_mem hkl)
      have hd : l.drop k = x :: l.drop (k + 1) := by rw [hxe]; exact List.drop_eq_getElem_cons hkl
      have hrun := HB.out.1
      rw [hd] at hrun
      obtain ⟨b1, o1, rfl, ⟨lb1, _⟩, hi1⟩ := H.out (by omega)
      obtain ⟨a0, a1, a2, a3, A1, c1, a4, a5⟩ := hi1 k hkl
      rw [← hx] at a0 a1 a2 a3 a4 a5
      have hbr := HB.out.2.size
      have u0 := (cell_below HB.out.2 lb1 _).trans a0
      have u1 := (cell_below HB.out.2 lb1 _).trans a1
      have u2 := (cell_below HB.out.2 lb1 _).trans a2
      have u3 := (cell_below HB.out.2 lb1 _).trans a3
      have u4 := (cell_below HB.out.2 lb1 _).trans a4
      have q1 := idxIt b1 o1 n c k hlt
      have hns := hsm.1
      clear a0 a1 a2 a3 a4 a5 hi1 hx hxe hd hsm
      have HBB := Lib.hid HB.out.2
      rcases hok with ⟨h1, h2, h3, h4⟩ | ⟨h1, h2, h3, h4⟩ | ⟨h1, h2, h3, h4, h5, h6⟩
      · have hst : stepF hv x = some (hv + 1) := by unfold stepF; rw [if_pos (.inl h1)]
        have HN := Lib.hid (show runF (l.drop (k + 1)) (hv + 1) = some 1 by rw [runF, hst] at hrun; exact hrun)
        rw [h1] at u0
        rw [h4] at u2
        rw [h3] at u3
        have v0 := fun j => (show (wr.drewN j).cell? ⟨b1, o1 + k * 5, none⟩ = some (.int .i64 1) from u0)
        have v2 := fun j => (show (wr.drewN j).cell? ⟨b1, o1 + k * 5 + 2, none⟩ = some (.int .u8 0) from u2)
        have v3 := fun j => (show (wr.drewN j).cell? ⟨b1, o1 + k * 5 + 3, none⟩ = some (.string ⟨#[]⟩) from u3)
        have v4 := fun j => (show (wr.drewN j).cell? ⟨b1, o1 + k * 5 + 4, none⟩ = some (.slice A1 x.ns.length c1) from u4)
        have hpos : decide (0 < x.ns.length) = true := decide_eq_true (List.length_pos_iff.2 h2)
        clear hst hrun h1 h2 h3 h4 u1 u2 u3 u4 HB
        go_wp2
        go_quiet (fail)
        clear v0 v2 v3 v4 q1 hpos
        go_wp2
        go_roundw
        case rel => exact ⟨k + 1, hv + 1, by omega, by omega, by go_num, by go_num, HN.out, below_drewN HBB.out HBB.out.size⟩
        case measure => simp [intOf]; omega
      · have hst : stepF hv x = some (hv + 1) := by unfold stepF; rw [if_pos (.inr h1)]
        have HN := Lib.hid (show runF (l.drop (k + 1)) (hv + 1) = some 1 by rw [runF, hst] at hrun; exact hrun)
        rw [h1] at u0
        rw [h4] at u2
        rw [h2] at u4
        have v0 := fun j => (show (wr.drewN j).cell? ⟨b1, o1 + k * 5, none⟩ = some (.int .i64 2) from u0)
        have v2 := fun j => (show (wr.drewN j).cell? ⟨b1, o1 + k * 5 + 2, none⟩ = some (.int .u8 0) from u2)
        have v3 := fun j => (show (wr.drewN j).cell? ⟨b1, o1 + k * 5 + 3, none⟩ = some (.string (bs x.nm)) from u3)
        have v4 := fun j => (show (wr.drewN j).cell? ⟨b1, o1 + k * 5 + 4, none⟩ = some (.slice A1 0 c1) from u4)
        have hne := neStr h3
        clear hst hrun h1 h2 h3 h4 u1 u2 u3 u4 HB
        go_wp2
        go_quiet (fail)
        clear v0 v2 v3 v4 q1 hne
        go_wp2
        go_roundw
        case rel => exact ⟨k + 1, hv + 1, by omega, by omega, by go_num, by go_num, HN.out, below_drewN HBB.out HBB.out.size⟩
        case measure => simp [intOf]; omega
      · clear h3 h4 h5 h6
        rcases h1 with h1 | h1
        · rcases h1 with hh | hh | hh
          · skip
            have e1 : (x.how == 1) = false := by rw [hh]; rfl
            have e2 : (x.how == 2) = false := by rw [hh]; rfl
            have e3 : (x.how == 3) = true := by rw [hh]; rfl
            have e5 : (x.how == 5) = false := by rw [hh]; rfl
            have e6 : (x.how == 6) = false := by rw [hh]; rfl
            have e4 : (x.how == 4) = false := by rw [hh]; rfl
            have e7 : (x.how == 7) = false := by rw [hh]; rfl
            have n1 : x.how ≠ 1 ∧ x.how ≠ 2 := by rw [hh]; decide
            have hM : isM x := by unfold isM; omega
            have hv1 : ¬ hv < 1 := fun e => by rw [runF, stepF, if_neg (by omega), if_pos hM, if_pos e] at hrun; cases hrun
            have hst : stepF hv x = some hv := stepF_M hM (by omega)
            have HN := Lib.hid (show runF (l.drop (k + 1)) hv = some 1 by rw [runF, hst] at hrun; exact hrun)
            have hvi : ¬ (hv : Int) < 1 := by omega
            have HT := Lib.hid h2
            clear hh n1 hM hst hrun h2 HB
            go_wp2_with (go_at_call 38; refine (takes_yes x A1 c1 _ HT.out).mono ?_; rintro e w5 ⟨rfl, g5⟩; have H5 := Lib.hid (HBB.out.trans (g5.mono hbr)); clear g5)
            clear u0 u1 u2 u3 u4 q1 e1 e2 e3 e4 e5 e6 e7 hvi
            go_roundw
            case rel => exact ⟨k + 1, hv, by omega, by omega, by go_num, by go_num, HN.out, H5.out⟩
            case measure => simp [intOf]; omega
          · skip
            have e1 : (x.how == 1) = false := by rw [hh]; rfl
            have e2 : (x.how == 2) = false := by rw [hh]; rfl
            have e3 : (x.how == 3) = false := by rw [hh]; rfl
            have e5 : (x.how == 5) = true := by rw [hh]; rfl
            have e6 : (x.how == 6) = false := by rw [hh]; rfl
            have e4 : (x.how == 4) = false := by rw [hh]; rfl
            have e7 : (x.how == 7) = false := by rw [hh]; rfl
            have n1 : x.how ≠ 1 ∧ x.how ≠ 2 := by rw [hh]; decide
            have hM : isM x := by unfold isM; omega
            have hv1 : ¬ hv < 1 := fun e => by rw [runF, stepF, if_neg (by omega), if_pos hM, if_pos e] at hrun; cases hrun
            have hst : stepF hv x = some hv := stepF_M hM (by omega)
            have HN := Lib.hid (show runF (l.drop (k + 1)) hv = some 1 by rw [runF, hst] at hrun; exact hrun)
            have hvi : ¬ (hv : Int) < 1 := by omega
            have HT := Lib.hid h2
            clear hh n1 hM hst hrun h2 HB
            go_wp2_with (go_at_call 38; refine (takes_yes x A1 c1 _ HT.out).mono ?_; rintro e w5 ⟨rfl, g5⟩; have H5 := Lib.hid (HBB.out.trans (g5.mono hbr)); clear g5)
            clear u0 u1 u2 u3 u4 q1 e1 e2 e3 e4 e5 e6 e7 hvi
            go_roundw
            case rel => exact ⟨k + 1, hv, by omega, by omega, by go_num, by go_num, HN.out, H5.out⟩
            case measure => simp [intOf]; omega
          · skip
            have e1 : (x.how == 1) = false := by rw [hh]; rfl
            have e2 : (x.how == 2) = false := by rw [hh]; rfl
            have e3 : (x.how == 3) = false := by rw [hh]; rfl
            have e5 : (x.how == 5) = false := by rw [hh]; rfl
            have e6 : (x.how == 6) = true := by rw [hh]; rfl
            have e4 : (x.how == 4) = false := by rw [hh]; rfl
            have e7 : (x.how == 7) = false := by rw [hh]; rfl
            have n1 : x.how ≠ 1 ∧ x.how ≠ 2 := by rw [hh]; decide
            have hM : isM x := by unfold isM; omega
            have hv1 : ¬ hv < 1 := fun e => by rw [runF, stepF, if_neg (by omega), if_pos hM, if_pos e] at hrun; cases hrun
            have hst : stepF hv x = some hv := stepF_M hM (by omega)
            have HN := Lib.hid (show runF (l.drop (k + 1)) hv = some 1 by rw [runF, hst] at hrun; exact hrun)
            have hvi : ¬ (hv : Int) < 1 := by omega
            have HT := Lib.hid h2
            clear hh n1 hM hst hrun h2 HB
            go_wp2_with (go_at_call 38; refine (takes_yes x A1 c1 _ HT.out).mono ?_; rintro e w5 ⟨rfl, g5⟩; have H5 := Lib.hid (HBB.out.trans (g5.mono hbr)); clear g5)
            clear u0 u1 u2 u3 u4 q1 e1 e2 e3 e4 e5 e6 e7 hvi
            go_roundw
            case rel => exact ⟨k + 1, hv, by omega, by omega, by go_num, by go_num, HN.out, H5.out⟩
            case measure => simp [intOf]; omega
        · rcases h1 with hh | hh
          · skip
            have e1 : (x.how == 1) = false := by rw [hh]; rfl
            have e2 : (x.how == 2) = false := by rw [hh]; rfl
            have e3 : (x.how == 3) = false := by rw [hh]; rfl
            have e5 : (x.how == 5) = false := by rw [hh]; rfl
            have e6 : (x.how == 6) = false := by rw [hh]; rfl
            have e4 : (x.how == 4) = true := by rw [hh]; rfl
            have e7 : (x.how == 7) = false := by rw [hh]; rfl
            have n1 : x.how ≠ 1 ∧ x.how ≠ 2 := by rw [hh]; decide
            have hD : isD x := by unfold isD; omega
            have hv1 : ¬ hv < 2 := fun e => by rw [runF, stepF, if_neg (by omega), if_neg (by unfold isM; omega), if_pos hD, if_pos e] at hrun; cases hrun
            have hst : stepF hv x = some (hv - 1) := stepF_D hD (by omega)
            have HN := Lib.hid (show runF (l.drop (k + 1)) (hv - 1) = some 1 by rw [runF, hst] at hrun; exact hrun)
            have hvi : ¬ (hv : Int) < 2 := by omega
            have HT := Lib.hid h2
            clear hh n1 hD hst hrun h2 HB
            go_wp2_with (go_at_call 38; refine (takes_yes x A1 c1 _ HT.out).mono ?_; rintro e w5 ⟨rfl, g5⟩; have H5 := Lib.hid (HBB.out.trans (g5.mono hbr)); clear g5)
            clear u0 u1 u2 u3 u4 q1 e1 e2 e3 e4 e5 e6 e7 hvi
            go_roundw
            case rel => exact ⟨k + 1, hv - 1, by omega, by omega, by go_num, by go_num, HN.out, H5.out⟩
            case measure => simp [intOf]; omega
          · skip
            have e1 : (x.how == 1) = false := by rw [hh]; rfl
            have e2 : (x.how == 2) = false := by rw [hh]; rfl
            have e3 : (x.how == 3) = false := by rw [hh]; rfl
            have e5 : (x.how == 5) = false := by rw [hh]; rfl
            have e6 : (x.how == 6) = false := by rw [hh]; rfl
            have e4 : (x.how == 4) = false := by rw [hh]; rfl
            have e7 : (x.how == 7) = true := by rw [hh]; rfl
            have n1 : x.how ≠ 1 ∧ x.how ≠ 2 := by rw [hh]; decide
            have hD : isD x := by unfold isD; omega
            have hv1 : ¬ hv < 2 := fun e => by rw [runF, stepF, if_neg (by omega), if_neg (by unfold isM; omega), if_pos hD, if_pos e] at hrun; cases hrun
            have hst : stepF hv x = some (hv - 1) := stepF_D hD (by omega)
            have HN := Lib.hid (show runF (l.drop (k + 1)) (hv - 1) = some 1 by rw [runF, hst] at hrun; exact hrun)
            have hvi : ¬ (hv : Int) < 2 := by omega
            have HT := Lib.hid h2
            clear hh n1 hD hst hrun h2 HB
            go_wp2_with (go_at_call 38; refine (takes_yes x A1 c1 _ HT.out).mono ?_; rintro e w5 ⟨rfl, g5⟩; have H5 := Lib.hid (HBB.out.trans (g5.mono hbr)); clear g5)
            clear u0 u1 u2 u3 u4 q1 e1 e2 e3 e4 e5 e6 e7 hvi
            go_roundw
            case rel => exact ⟨k + 1, hv - 1, by omega, by omega, by go_num, by go_num, HN.out, H5.out⟩
            case measure => simp [intOf]; omega
    · obtain rfl : k = n := by omega
      have hrun := HB.out.1
      rw [List.drop_of_length_le (by rw [HZ.out.1]; exact Nat.le_refl _)] at hrun
      have hv1 : hv = 1 := by simpa [runF] using hrun
      subst hv1
      clear hrun
      go_wp2
      go_ret
      exact ⟨rfl, HB.out.2⟩
end Go.Proofs.YthdognmppbckbaaDoor
