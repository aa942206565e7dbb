/- Contracts: Const, Var; what a call answers that answers a polynomial. -/
import Derived.Test.YtogflbpphacokaaPolyD
namespace Go.Proofs.Ytogflbpphacokaa
open Go.RowKit

/-- The value v reads as the monomials l, in a block from base on, of its own. -/
def Own (w : World) (base : Nat) (v : Value) (l : List Mo) : Prop := w.ownsRow base 44 7 v l.length (l.flatMap Mo.cells)
def PolyRes (w : World) (r : List Mo × Int) (e : Ending) (w' : World) : Prop :=
  ∃ A c, e = .returned (.tuple #[.slice A r.1.length c, .int .i64 r.2]) ∧ Own w' w.heap.size (.slice A r.1.length c) r.1 ∧ Below w.heap.size w w'
theorem Own.nil (w : World) (base : Nat) : Own w base (.slice none 0 0) [] := World.ownsRow_nil w base _ _
theorem flat_len (l : List Mo) : (l.flatMap Mo.cells).length = l.length * 7 := by
  induction l with
  | nil => rfl
  | cons a l ih => simp only [List.flatMap_cons, List.length_append, ih, List.length_cons]; simp [Mo.cells]; omega
theorem Own.new {w : World} {base : Nat} (l : List Mo) (hb : base ≤ w.heap.size) (hl : l.length ≤ maxLen) : Own (w.alloc (.cells (l.flatMap Mo.cells).toArray 44)) base (.slice (some ⟨w.heap.size, 0, none⟩) l.length l.length) l := by
  refine ⟨flat_len l, .inr ⟨w.heap.size, l.length, (l.flatMap Mo.cells).toArray, rfl, hb, heap_alloc_new w _, Nat.le_refl _, hl, by simpa using flat_len l, ?_⟩⟩
  rw [List.take_of_length_le (Nat.le_of_eq (flat_len l))]

def constR (n : Int) : List Mo × Int := if fitsB n = true then (if n = 0 then ([], 0) else ([⟨n, 0, 0, 0, 0, 0, 0⟩], 0)) else ([], 21)
def varR (k : Int) : List Mo × Int := if 0 ≤ k ∧ k < 6 then ([⟨1, if k = 0 then 1 else 0, if k = 1 then 1 else 0, if k = 2 then 1 else 0, if k = 3 then 1 else 0, if k = 4 then 1 else 0, if k = 5 then 1 else 0⟩], 0) else ([], 23)

theorem res_none {w w' : World} {r : List Mo × Int} {c : Int} (hr : r = ([], c)) (hb : Below w.heap.size w w') : PolyRes w r (.returned (.tuple #[.slice none 0 0, .int .i64 c])) w' := by
  subst hr
  exact ⟨none, 0, rfl, Own.nil _ _, hb⟩
theorem res_one {w w1 : World} {r : List Mo × Int} {m : Mo} (hr : r = ([m], 0)) (hb : Below w.heap.size w w1) : PolyRes w r (.returned (.tuple #[.slice (some ⟨w1.heap.size, 0, none⟩) 1 1, .int .i64 0])) (w1.alloc (.cells #[.int .i64 m.n, .int .u8 m.e0, .int .u8 m.e1, .int .u8 m.e2, .int .u8 m.e3, .int .u8 m.e4, .int .u8 m.e5] 44)) := by
  subst hr
  exact ⟨_, 1, rfl, Own.new [m] hb.size (by show 1 ≤ maxLen; decide), hb.alloc hb.size _⟩

theorem res_one2 {w : World} {r : List Mo × Int} {m : Mo} (o : Obj) (hr : r = ([m], 0)) : PolyRes w r (.returned (.tuple #[.slice (some ⟨w.heap.size + 1, 0, none⟩) 1 1, .int .i64 0])) ((w.alloc o).alloc (.cells #[.int .i64 m.n, .int .u8 m.e0, .int .u8 m.e1, .int .u8 m.e2, .int .u8 m.e3, .int .u8 m.e4, .int .u8 m.e5] 44)) := by
  have h := res_one (w := w) (w1 := w.alloc o) hr ((Below.refl _ _).alloc (Nat.le_refl _) _)
  rw [show (w.alloc o).heap.size = w.heap.size + 1 from by simp] at h
  exact h

set_option maxHeartbeats 1000000 in
theorem const_any (n : Int) (w : World) : Calls Try.prog 19 #[.int .i64 n] w (PolyRes w (constR n)) := by
  cases hf : fitsB n with
  | false =>
    have hr := Lib.hid (show constR n = ([], 21) by simp [constR, hf])
    go_enter Try.func19, Try.ntmps19
    go_wp2_with (go_at_call 33; refine (fits_any _ _).mono ?_; rintro e w' ⟨rfl, rfl⟩)
    go_ret2
    exact res_none hr.out (Below.refl _ _)
  | true =>
    by_cases hn : n = 0
    · have hr := Lib.hid (show constR n = ([], 0) by unfold constR; rw [if_pos hf, if_pos hn])
      have hn0 : (n == 0) = true := by simpa using hn
      clear hn
      go_enter Try.func19, Try.ntmps19
      go_wp2_with (go_at_call 33; refine (fits_any _ _).mono ?_; rintro e w' ⟨rfl, rfl⟩)
      go_ret2
      exact res_none hr.out (Below.refl _ _)
    · have hr := Lib.hid (show constR n = ([⟨n, 0, 0, 0, 0, 0, 0⟩], 0) by simp [constR, hf, hn])
      have hn0 : (n == 0) = false := by simpa using hn
      clear hn
      go_enter Try.func19, Try.ntmps19
      go_wp2_with (go_at_call 33; refine (fits_any _ _).mono ?_; rintro e w' ⟨rfl, rfl⟩)
      go_ret2
      exact res_one hr.out (Below.refl _ _)

set_option maxHeartbeats 1000000 in
theorem refconst_any (n : Int) (w : World) : Calls Try.prog 20 #[.int .i64 n] w (PolyRes w (constR n)) := by
  by_cases h1 : 16777216 < n
  · have hr := Lib.hid (show constR n = ([], 21) by simp [constR, fits_hi h1])
    go_enter Try.func20, Try.ntmps20
    go_wp2
    go_ret2
    exact res_none hr.out (Below.refl _ _)
  by_cases h2 : n < -16777216
  · have hr := Lib.hid (show constR n = ([], 21) by simp [constR, fits_lo h2])
    go_enter Try.func20, Try.ntmps20
    go_wp2
    go_ret2
    exact res_none hr.out (Below.refl _ _)
  have hf := fits_yes h2 h1
  by_cases hn : n = 0
  · have hr := Lib.hid (show constR n = ([], 0) by unfold constR; rw [if_pos hf, if_pos hn])
    have hn0 : (n == 0) = true := by simpa using hn
    clear hn hf
    go_enter Try.func20, Try.ntmps20
    go_wp2
    go_ret2
    exact res_none hr.out (Below.refl _ _)
  · have hr := Lib.hid (show constR n = ([⟨n, 0, 0, 0, 0, 0, 0⟩], 0) by simp [constR, hf, hn])
    have hn0 : (n == 0) = false := by simpa using hn
    clear hn hf
    go_enter Try.func20, Try.ntmps20
    go_wp2
    go_ret2
    exact res_one hr.out (Below.refl _ _)

theorem var_lo {k : Int} (h : k < 0) : varR k = ([], 23) := if_neg (by omega)
theorem var_hi {k : Int} (h : 6 ≤ k) : varR k = ([], 23) := if_neg (by omega)
set_option maxHeartbeats 1000000 in
theorem var_any (k : Int) (w : World) : Calls Try.prog 21 #[.int .i64 k] w (PolyRes w (varR k)) := by
  by_cases h1 : k < 0
  · have hr := Lib.hid (var_lo h1)
    go_enter Try.func21, Try.ntmps21
    go_wp2
    go_ret2
    exact res_none hr.out (Below.refl _ _)
  by_cases h2 : 6 ≤ k
  · have hr := Lib.hid (var_hi h2)
    go_enter Try.func21, Try.ntmps21
    go_wp2
    go_ret2
    exact res_none hr.out (Below.refl _ _)
  have h : k = 0 ∨ k = 1 ∨ k = 2 ∨ k = 3 ∨ k = 4 ∨ k = 5 := by omega
  clear h1 h2
  rcases h with rfl | rfl | rfl | rfl | rfl | rfl
  · have hr := Lib.hid (show varR 0 = ([⟨1, 1, 0, 0, 0, 0, 0⟩], 0) by simp [varR])
    go_enter Try.func21, Try.ntmps21
    go_wp2
    go_ret2
    exact res_one2 _ hr.out
  · have hr := Lib.hid (show varR 1 = ([⟨1, 0, 1, 0, 0, 0, 0⟩], 0) by simp [varR])
    go_enter Try.func21, Try.ntmps21
    go_wp2
    go_ret2
    exact res_one2 _ hr.out
  · have hr := Lib.hid (show varR 2 = ([⟨1, 0, 0, 1, 0, 0, 0⟩], 0) by simp [varR])
    go_enter Try.func21, Try.ntmps21
    go_wp2
    go_ret2
    exact res_one2 _ hr.out
  · have hr := Lib.hid (show varR 3 = ([⟨1, 0, 0, 0, 1, 0, 0⟩], 0) by simp [varR])
    go_enter Try.func21, Try.ntmps21
    go_wp2
    go_ret2
    exact res_one2 _ hr.out
  · have hr := Lib.hid (show varR 4 = ([⟨1, 0, 0, 0, 0, 1, 0⟩], 0) by simp [varR])
    go_enter Try.func21, Try.ntmps21
    go_wp2
    go_ret2
    exact res_one2 _ hr.out
  · have hr := Lib.hid (show varR 5 = ([⟨1, 0, 0, 0, 0, 0, 1⟩], 0) by simp [varR])
    go_enter Try.func21, Try.ntmps21
    go_wp2
    go_ret2
    exact res_one2 _ hr.out
set_option maxHeartbeats 1000000 in
theorem refvar_any (k : Int) (w : World) : Calls Try.prog 22 #[.int .i64 k] w (PolyRes w (varR k)) := by
  by_cases h1 : k < 0
  · have hr := Lib.hid (var_lo h1)
    go_enter Try.func22, Try.ntmps22
    go_wp2
    go_ret2
    exact res_none hr.out (Below.refl _ _)
  by_cases h2 : 6 ≤ k
  · have hr := Lib.hid (var_hi h2)
    go_enter Try.func22, Try.ntmps22
    go_wp2
    go_ret2
    exact res_none hr.out (Below.refl _ _)
  have h : k = 0 ∨ k = 1 ∨ k = 2 ∨ k = 3 ∨ k = 4 ∨ k = 5 := by omega
  clear h1 h2
  rcases h with rfl | rfl | rfl | rfl | rfl | rfl
  · have hr := Lib.hid (show varR 0 = ([⟨1, 1, 0, 0, 0, 0, 0⟩], 0) by simp [varR])
    go_enter Try.func22, Try.ntmps22
    go_wp2
    go_ret2
    exact res_one2 _ hr.out
  · have hr := Lib.hid (show varR 1 = ([⟨1, 0, 1, 0, 0, 0, 0⟩], 0) by simp [varR])
    go_enter Try.func22, Try.ntmps22
    go_wp2
    go_ret2
    exact res_one2 _ hr.out
  · have hr := Lib.hid (show varR 2 = ([⟨1, 0, 0, 1, 0, 0, 0⟩], 0) by simp [varR])
    go_enter Try.func22, Try.ntmps22
    go_wp2
    go_ret2
    exact res_one2 _ hr.out
  · have hr := Lib.hid (show varR 3 = ([⟨1, 0, 0, 0, 1, 0, 0⟩], 0) by simp [varR])
    go_enter Try.func22, Try.ntmps22
    go_wp2
    go_ret2
    exact res_one2 _ hr.out
  · have hr := Lib.hid (show varR 4 = ([⟨1, 0, 0, 0, 0, 1, 0⟩], 0) by simp [varR])
    go_enter Try.func22, Try.ntmps22
    go_wp2
    go_ret2
    exact res_one2 _ hr.out
  · have hr := Lib.hid (show varR 5 = ([⟨1, 0, 0, 0, 0, 0, 1⟩], 0) by simp [varR])
    go_enter Try.func22, Try.ntmps22
    go_wp2
    go_ret2
    exact res_one2 _ hr.out
end Go.Proofs.Ytogflbpphacokaa
