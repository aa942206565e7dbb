/- Contracts of the leaves of package poly and of the document's answers for it. -/
import Derived.Test.YtogflbpphacokaaRows
import Derived.WalkKit
import Derived.WalkSpells
import Derived.WalkLawsBesides
import Derived.Lib.Hide
import Derived.Below
import Derived.Outline
import Derived.BigQuiet
import Derived.Deep.QuietTactic
import Derived.Sort.Grow
import Derived.Deep.Draws
import Derived.Test.YtogflbpphacokaaPolyM
namespace Go.Proofs.Ytogflbpphacokaa
open Go.RowKit

/-- From w to w': some draws, some new blocks; nothing that was there has turned. -/
def Gr (w w' : World) : Prop := ∃ (n : Nat) (os : Array Obj), w' = Go.Sort.grow (w.drewN n) os
theorem Gr.refl (w : World) : Gr w w := ⟨0, #[], by rw [Go.Sort.grow_empty]; rfl⟩
theorem Gr.drewN {w w' : World} (h : Gr w w') (k : Nat) : Gr w (w'.drewN k) := by
  obtain ⟨n, os, rfl⟩ := h
  exact ⟨n + k, os, by rw [← World.drewN_drewN]; rfl⟩
theorem Gr.drew {w w' : World} (h : Gr w w') : Gr w w'.drew := h.drewN 1
theorem Gr.grow {w w' : World} (h : Gr w w') (os : Array Obj) : Gr w (Go.Sort.grow w' os) := by
  obtain ⟨n, os0, rfl⟩ := h
  exact ⟨n, os0 ++ os, Go.Sort.grow_grow _ _ _⟩
theorem Gr.alloc {w w' : World} (h : Gr w w') (o : Obj) : Gr w (w'.alloc o) := by
  rw [Go.Sort.alloc_eq_grow]; exact h.grow _
theorem Gr.trans {a b c : World} (h : Gr a b) (k : Gr b c) : Gr a c := by
  obtain ⟨n, os, rfl⟩ := k
  exact (h.drewN n).grow os
theorem Gr.below {w w' : World} (h : Gr w w') : Below w.heap.size w w' := by
  obtain ⟨n, os, rfl⟩ := h
  exact ⟨rfl, rfl, rfl, by simp [Go.Sort.grow], fun k hk => Go.Sort.heap_grow_old (w.drewN n) os hk⟩
theorem Gr.cell {w w' : World} (h : Gr w w') {b o : Nat} (hb : b < w.heap.size) : w'.cell? ⟨b, o, none⟩ = w.cell? ⟨b, o, none⟩ := h.below.cell (p := ⟨b, o, none⟩) hb

theorem ret_int {k : IntKind} {a b : Int} (h : a = b) : Ending.returned (.int k a) = .returned (.int k b) := by rw [h]
theorem ret_bool {a b : Bool} (h : a = b) : Ending.returned (.bool a) = .returned (.bool b) := by rw [h]

theorem cases6 {p : Nat → Prop} (h0 : p 0) (h1 : p 1) (h2 : p 2) (h3 : p 3) (h4 : p 4) (h5 : p 5) (k : Nat) (hk : k < 6) : p k := by
  match k, hk with
  | 0, _ => exact h0
  | 1, _ => exact h1
  | 2, _ => exact h2
  | 3, _ => exact h3
  | 4, _ => exact h4
  | 5, _ => exact h5
theorem idx42 (m : Mo) (k : Nat) (hk : k < 6) (w : World) : (Instr.index 42 (.agg #[.int .u8 m.e0, .int .u8 m.e1, .int .u8 m.e2, .int .u8 m.e3, .int .u8 m.e4, .int .u8 m.e5]) (.int .i64 k)).run Try.prog w = .ok (.int .u8 (m.e k)) w := by
  revert k
  exact cases6 (by kernel_rfl) (by kernel_rfl) (by kernel_rfl) (by kernel_rfl) (by kernel_rfl) (by kernel_rfl)
theorem idx52 (m : Mo) (k : Nat) (hk : k < 6) (w : World) : (Instr.index 52 (.agg #[.int .u8 m.e0, .int .u8 m.e1, .int .u8 m.e2, .int .u8 m.e3, .int .u8 m.e4, .int .u8 m.e5]) (.int .i64 k)).run Try.prog w = .ok (.int .u8 (m.e k)) w := by
  revert k
  exact cases6 (by kernel_rfl) (by kernel_rfl) (by kernel_rfl) (by kernel_rfl) (by kernel_rfl) (by kernel_rfl)
theorem boxcell (m : Mo) (k : Nat) (hk : k < 6) (w : World) : (w.alloc (.cells #[.int .i64 m.n, .int .u8 m.e0, .int .u8 m.e1, .int .u8 m.e2, .int .u8 m.e3, .int .u8 m.e4, .int .u8 m.e5] 44)).cell? ⟨w.heap.size, 1 + k, none⟩ = some (.int .u8 (m.e k)) := by
  revert k
  exact cases6 (by go_simp; rfl) (by go_simp; rfl) (by go_simp; rfl) (by go_simp; rfl) (by go_simp; rfl) (by go_simp; rfl)

set_option maxHeartbeats 400000 in
theorem degree_any (m : Mo) (h : m.wf) (w : World) : Calls Try.prog 34 #[.agg #[.int .i64 m.n, .int .u8 m.e0, .int .u8 m.e1, .int .u8 m.e2, .int .u8 m.e3, .int .u8 m.e4, .int .u8 m.e5]] w fun e w' => e = .returned (.int .i64 m.deg) ∧ Gr w w' := by
  have hp := Lib.hid (Mo.part_bd h)
  have hs : Hid (∀ k : Nat, 0 ≤ m.e k ∧ m.e k ≤ 255) := h.2
  clear h
  go_enter Try.func34, Try.ntmps34
  go_wp2
  go_loop [3, 8] (fun d i => ∃ k : Nat, k ≤ 6 ∧ i = .int .i64 k ∧ d = .int .i64 (m.part k)) (fun _ i => 6 - (intOf i).toNat)
  case atStart => exact ⟨0, by omega, rfl, rfl⟩
  case round =>
    obtain ⟨k, hk, rfl, rfl⟩ := hrel
    by_cases hlt : k < 6
    · have hi := idx42 m k hlt
      have h1 := hp.out k
      have h2 := hs.out k
      go_wp2
      go_round
      case rel => exact ⟨k + 1, by omega, by go_num, rfl⟩
      case measure => simp [intOf]; omega
    · obtain rfl : k = 6 := by omega
      go_wp2
      go_ret
      exact ⟨ret_int m.part6, (Gr.refl _).alloc _⟩

set_option maxHeartbeats 400000 in
theorem refdegree_any (m : Mo) (h : m.wf) (w : World) : Calls Try.prog 36 #[.agg #[.int .i64 m.n, .int .u8 m.e0, .int .u8 m.e1, .int .u8 m.e2, .int .u8 m.e3, .int .u8 m.e4, .int .u8 m.e5]] w fun e w' => e = .returned (.int .i64 m.deg) ∧ Gr w w' := by
  have hp := Lib.hid (Mo.part_bd h)
  have hs : Hid (∀ k : Nat, 0 ≤ m.e k ∧ m.e k ≤ 255) := h.2
  clear h
  go_enter Try.func36, Try.ntmps36
  go_wp2
  go_loop [3, 4] (fun d i => ∃ k : Nat, k ≤ 6 ∧ i = .int .i64 k ∧ d = .int .i64 (m.part k)) (fun _ i => 6 - (intOf i).toNat)
  case atStart => exact ⟨0, by omega, rfl, rfl⟩
  case round =>
    obtain ⟨k, hk, rfl, rfl⟩ := hrel
    by_cases hlt : k < 6
    · have hi := boxcell m k hlt w
      have h1 := hp.out k
      have h2 := hs.out k
      go_wp2
      go_round
      case rel => exact ⟨k + 1, by omega, by go_num, rfl⟩
      case measure => simp [intOf]; omega
    · obtain rfl : k = 6 := by omega
      go_wp2
      go_ret
      exact ⟨ret_int m.part6, (Gr.refl _).alloc _⟩
set_option maxHeartbeats 400000 in
theorem fits_any (n : Int) (w : World) : Calls Try.prog 33 #[.int .i64 n] w fun e w' => e = .returned (.bool (fitsB n)) ∧ w' = w := by
  go_enter Try.func33, Try.ntmps33
  go_wp2
  all_goals
    go_ret
    refine ⟨ret_bool ?_, rfl⟩
    simp [fitsB]
    omega
set_option maxHeartbeats 400000 in
theorem nan_any (n : Int) (w : World) : Calls Try.prog 55 #[.int .u8 n] w fun e w' => e = .returned (.bool false) ∧ w' = w := by
  go_enter Try.func55, Try.ntmps55
  go_wp2
  go_ret
  exact ⟨rfl, rfl⟩
def cmpI (a b : Int) : Int := if a < b then -1 else if b < a then 1 else 0
theorem cmpI_lt {a b : Int} (h : a < b) : cmpI a b = -1 := by unfold cmpI; rw [if_pos h]
theorem cmpI_gt {a b : Int} (h : b < a) : cmpI a b = 1 := by unfold cmpI; rw [if_neg (by omega), if_pos h]
theorem cmpI_eq (a : Int) : cmpI a a = 0 := by unfold cmpI; rw [if_neg (by omega), if_neg (by omega)]
set_option maxHeartbeats 400000 in
theorem cmp_any (a b : Int) (w : World) : Calls Try.prog 51 #[.int .u8 a, .int .u8 b] w fun e w' => e = .returned (.int .i64 (cmpI a b)) ∧ w' = w := by
  go_enter Try.func51, Try.ntmps51
  go_wp2_with (go_at_call 55; refine (nan_any _ _).mono ?_; rintro e w' ⟨rfl, rfl⟩)
  all_goals
    go_ret
    refine ⟨ret_int ?_, rfl⟩
    unfold cmpI
    (repeat' split) <;> omega

set_option maxHeartbeats 400000 in
theorem compare_any (x y : Mo) (hx : x.wf) (hy : y.wf) (b1 o1 b2 o2 c1 c2 : Nat) (w : World) (h1 : ∀ k, k < 6 → w.cell? ⟨b1, o1 + k, none⟩ = some (.int .u8 (x.e k))) (h2 : ∀ k, k < 6 → w.cell? ⟨b2, o2 + k, none⟩ = some (.int .u8 (y.e k))) :
    Calls Try.prog 47 #[.slice (some ⟨b1, o1, none⟩) 6 c1, .slice (some ⟨b2, o2, none⟩) 6 c2] w fun e w' => e = .returned (.int .i64 (cmpI x.code y.code)) ∧ w' = w := by
  have H1 := Lib.hid h1
  have H2 := Lib.hid h2
  clear h1 h2
  go_enter Try.func47, Try.ntmps47
  go_wp2
  go_loop [11] (fun i => ∃ k : Nat, k ≤ 6 ∧ i = .int .i64 k ∧ x.pre k = y.pre k) (fun i => 6 - (intOf i).toNat)
  case atStart => exact ⟨0, by omega, rfl, rfl⟩
  case round =>
    obtain ⟨k, hk, rfl, hp⟩ := hrel
    have HP := Lib.hid hp
    clear hp
    by_cases hlt : k < 6
    · have hc1 := H1.out k hlt
      have hc2 := H2.out k hlt
      rcases Int.lt_trichotomy (x.e k) (y.e k) with hh | hh | hh
      · have hr : cmpI (x.e k) (y.e k) = -1 := cmpI_lt hh
        have hf := Lib.hid (Mo.code_lt hx hy hlt HP.out hh)
        go_wp2_with (go_at_call 51; refine (cmp_any _ _ _).mono ?_; rintro e w' ⟨rfl, rfl⟩)
        go_ret
        exact ⟨ret_int (cmpI_lt hf.out).symm, rfl⟩
      · have hr : cmpI (x.e k) (y.e k) = 0 := by rw [hh]; exact cmpI_eq _
        have hn : Hid (x.pre (k + 1) = y.pre (k + 1)) := by have := HP.out; show _ = _; simp only [Mo.pre]; rw [this, hh]
        clear hh
        go_wp2_with (go_at_call 51; refine (cmp_any _ _ _).mono ?_; rintro e w' ⟨rfl, rfl⟩)
        go_round
        case rel => exact ⟨k + 1, by omega, by go_num, hn.out⟩
        case measure => simp [intOf]; omega
      · have hr : cmpI (x.e k) (y.e k) = 1 := cmpI_gt hh
        have hf := Lib.hid (Mo.code_lt hy hx hlt HP.out.symm hh)
        go_wp2_with (go_at_call 51; refine (cmp_any _ _ _).mono ?_; rintro e w' ⟨rfl, rfl⟩)
        go_ret
        exact ⟨ret_int (cmpI_gt hf.out).symm, rfl⟩
    · obtain rfl : k = 6 := by omega
      go_wp2
      go_ret
      exact ⟨ret_int (by have := HP.out; rw [Mo.pre6, Mo.pre6] at this; rw [this]; exact (cmpI_eq _).symm), rfl⟩

theorem boxcell1 (m u : Mo) (k : Nat) (hk : k < 6) (w : World) : ((w.alloc (.cells #[.int .i64 m.n, .int .u8 m.e0, .int .u8 m.e1, .int .u8 m.e2, .int .u8 m.e3, .int .u8 m.e4, .int .u8 m.e5] 44)).alloc (.cells #[.int .i64 u.n, .int .u8 u.e0, .int .u8 u.e1, .int .u8 u.e2, .int .u8 u.e3, .int .u8 u.e4, .int .u8 u.e5] 44)).cell? ⟨w.heap.size, 1 + k, none⟩ = some (.int .u8 (m.e k)) := by
  revert k
  exact cases6 (by go_simp; rfl) (by go_simp; rfl) (by go_simp; rfl) (by go_simp; rfl) (by go_simp; rfl) (by go_simp; rfl)
theorem boxcell2 (m u : Mo) (k : Nat) (hk : k < 6) (w : World) : ((w.alloc (.cells #[.int .i64 u.n, .int .u8 u.e0, .int .u8 u.e1, .int .u8 u.e2, .int .u8 u.e3, .int .u8 u.e4, .int .u8 u.e5] 44)).alloc (.cells #[.int .i64 m.n, .int .u8 m.e0, .int .u8 m.e1, .int .u8 m.e2, .int .u8 m.e3, .int .u8 m.e4, .int .u8 m.e5] 44)).cell? ⟨w.heap.size + 1, 1 + k, none⟩ = some (.int .u8 (m.e k)) := by
  revert k
  exact cases6 (by go_simp; rfl) (by go_simp; rfl) (by go_simp; rfl) (by go_simp; rfl) (by go_simp; rfl) (by go_simp; rfl)
set_option maxHeartbeats 400000 in
theorem falling_any (x y : Mo) (hx : x.wf) (hy : y.wf) (w : World) : Calls Try.prog 35 #[.agg #[.int .i64 x.n, .int .u8 x.e0, .int .u8 x.e1, .int .u8 x.e2, .int .u8 x.e3, .int .u8 x.e4, .int .u8 x.e5], .agg #[.int .i64 y.n, .int .u8 y.e0, .int .u8 y.e1, .int .u8 y.e2, .int .u8 y.e3, .int .u8 y.e4, .int .u8 y.e5]] w fun e w' => e = .returned (.int .i64 (cmpI y.code x.code)) ∧ Gr w w' := by
  go_enter Try.func35, Try.ntmps35
  go_wp2
  go_quiet ((go_at_call 47; exact Calls.quiet_of_same (compare_any y x hy hx _ _ _ _ _ _ _ (fun k hk => boxcell2 y x k hk w) (fun k hk => boxcell1 x y k hk w))))
  go_wp2
  go_ret
  exact ⟨rfl, (((Gr.refl _).alloc _).alloc _).drewN _⟩
set_option maxHeartbeats 400000 in
theorem above_any (x y : Mo) (hx : x.wf) (hy : y.wf) (w : World) : Calls Try.prog 37 #[.agg #[.int .i64 x.n, .int .u8 x.e0, .int .u8 x.e1, .int .u8 x.e2, .int .u8 x.e3, .int .u8 x.e4, .int .u8 x.e5], .agg #[.int .i64 y.n, .int .u8 y.e0, .int .u8 y.e1, .int .u8 y.e2, .int .u8 y.e3, .int .u8 y.e4, .int .u8 y.e5]] w fun e w' => e = .returned (.int .i64 (cmpI x.code y.code)) ∧ Gr w w' := by
  go_enter Try.func37, Try.ntmps37
  go_wp2
  go_loopw [5] (fun i wr => ∃ k n : Nat, k ≤ 6 ∧ i = .int .i64 k ∧ x.pre k = y.pre k ∧ wr = ((w.alloc (.cells #[.int .i64 x.n, .int .u8 x.e0, .int .u8 x.e1, .int .u8 x.e2, .int .u8 x.e3, .int .u8 x.e4, .int .u8 x.e5] 44)).alloc (.cells #[.int .i64 y.n, .int .u8 y.e0, .int .u8 y.e1, .int .u8 y.e2, .int .u8 y.e3, .int .u8 y.e4, .int .u8 y.e5] 44)).drewN n) (fun i _ => 6 - (intOf i).toNat)
  case atStart => exact ⟨0, 0, by omega, rfl, rfl, rfl⟩
  case round =>
    obtain ⟨k, n, hk, rfl, hp, rfl⟩ := hrel
    have HP := Lib.hid hp
    clear hp
    by_cases hlt : k < 6
    · have hc1 := fun n => show (((w.alloc (.cells #[.int .i64 x.n, .int .u8 x.e0, .int .u8 x.e1, .int .u8 x.e2, .int .u8 x.e3, .int .u8 x.e4, .int .u8 x.e5] 44)).alloc (.cells #[.int .i64 y.n, .int .u8 y.e0, .int .u8 y.e1, .int .u8 y.e2, .int .u8 y.e3, .int .u8 y.e4, .int .u8 y.e5] 44)).drewN n).cell? ⟨w.heap.size, 1 + k, none⟩ = _ from boxcell1 x y k hlt w
      have hc2 := fun n => show (((w.alloc (.cells #[.int .i64 x.n, .int .u8 x.e0, .int .u8 x.e1, .int .u8 x.e2, .int .u8 x.e3, .int .u8 x.e4, .int .u8 x.e5] 44)).alloc (.cells #[.int .i64 y.n, .int .u8 y.e0, .int .u8 y.e1, .int .u8 y.e2, .int .u8 y.e3, .int .u8 y.e4, .int .u8 y.e5] 44)).drewN n).cell? ⟨w.heap.size + 1, 1 + k, none⟩ = _ from boxcell2 y x k hlt w
      rcases Int.lt_trichotomy (x.e k) (y.e k) with hh | hh | hh
      · have hf := Lib.hid (Mo.code_lt hx hy hlt HP.out hh)
        go_wp2
        go_quiet (fail)
        go_wp2
        go_quiet (fail)
        go_wp2
        go_ret
        exact ⟨ret_int (cmpI_lt hf.out).symm, by repeat (first | exact Gr.refl _ | apply Gr.drewN | apply Gr.alloc)⟩
      · have hn : Hid (x.pre (k + 1) = y.pre (k + 1)) := by have := HP.out; show _ = _; simp only [Mo.pre]; rw [this, hh]
        have hh1 : ¬ x.e k < y.e k := by omega
        have hh2 : ¬ y.e k < x.e k := by omega
        clear hh
        go_wp2
        go_quiet (fail)
        go_wp2
        go_quiet (fail)
        go_wp2
        go_roundw
        case rel => exact ⟨k + 1, _, by omega, by go_num, hn.out, rfl⟩
        case measure => simp [intOf]; omega
      · have hf := Lib.hid (Mo.code_lt hy hx hlt HP.out.symm hh)
        go_wp2
        go_quiet (fail)
        go_wp2
        go_ret
        exact ⟨ret_int (cmpI_gt hf.out).symm, by repeat (first | exact Gr.refl _ | apply Gr.drewN | apply Gr.alloc)⟩
    · obtain rfl : k = 6 := by omega
      go_wp2
      go_ret
      exact ⟨ret_int (by have := HP.out; rw [Mo.pre6, Mo.pre6] at this; rw [this]; exact (cmpI_eq _).symm), by repeat (first | exact Gr.refl _ | apply Gr.drewN | apply Gr.alloc)⟩
end Go.Proofs.Ytogflbpphacokaa
