/- Contracts: the laws' own helpers: at, shown. -/
import Derived.Test.YtogflbpphacokaaPolyZB
import Derived.Test.YtogflbpphacokaaPolyED
namespace Go.Proofs.Ytogflbpphacokaa
open Go.RowKit

set_option maxHeartbeats 400000 in
theorem at_any (n x y : Int) (w : World) : Calls Try.prog 32 #[.int .i64 n, .int .u8 x, .int .u8 y] w fun e w' => e = .returned (.agg #[.int .i64 n, .int .u8 x, .int .u8 y, .int .u8 0, .int .u8 0, .int .u8 0, .int .u8 0]) ∧ Gr w w' := by
  go_enter Try.func32, Try.ntmps32
  go_wp2
  exact bodyPost_ret (v := .agg #[.int .i64 n, .int .u8 x, .int .u8 y, .int .u8 0, .int .u8 0, .int .u8 0, .int .u8 0]) (by simp [results, Try.results32, go_sem]) rfl ⟨rfl, ((Gr.refl _).alloc _).alloc _⟩

def mk2 (n x y : Int) : Mo := ⟨n, x, y, 0, 0, 0, 0⟩
theorem shown1 : mulR [mk2 1 1 0, mk2 1 0 0] [mk2 1 1 0, mk2 (-1) 0 0] = ([mk2 1 2 0, mk2 (-1) 0 0], 0) := by kernel_rfl
theorem shown2 : mulR [mk2 1 8 0] [mk2 1 1 0] = ([], 21) := by kernel_rfl
theorem shown3 : evalR [mk2 1 1 1, mk2 (-3) 0 0] [2, 5] = (7, 0) := by kernel_rfl
theorem shown4 : evalR [mk2 1 2 0, mk2 1 0 0] [2147483648] = (0, 22) := by kernel_rfl
theorem shown5 : growsB [mk2 1 1 0, mk2 (-1) 0 0] = false := by kernel_rfl
theorem mk2_wf {n x y : Int} (hn : -100 ≤ n ∧ n ≤ 100) (hx : 0 ≤ x ∧ x ≤ 255) (hy : 0 ≤ y ∧ y ≤ 255) : (mk2 n x y).wf :=
  Mo.wf_mk (by show -9223372036854775808 ≤ n ∧ n ≤ 9223372036854775807; omega) hx hy (by show (0 : Int) ≤ 0 ∧ (0 : Int) ≤ 255; omega) (by show (0 : Int) ≤ 0 ∧ (0 : Int) ≤ 255; omega) (by show (0 : Int) ≤ 0 ∧ (0 : Int) ≤ 255; omega) (by show (0 : Int) ≤ 0 ∧ (0 : Int) ≤ 255; omega)

def w1 (w : World) (n x y : Int) : World := w.alloc (.cells #[.int .i64 n, .int .u8 x, .int .u8 y, .int .u8 0, .int .u8 0, .int .u8 0, .int .u8 0] 44)
def w2 (w : World) (n x y n' x' y' : Int) : World := w.alloc (.cells #[.int .i64 n, .int .u8 x, .int .u8 y, .int .u8 0, .int .u8 0, .int .u8 0, .int .u8 0, .int .i64 n', .int .u8 x', .int .u8 y', .int .u8 0, .int .u8 0, .int .u8 0, .int .u8 0] 44)
theorem rd_one (w : World) {n x y : Int} (h : (mk2 n x y).wf) : Rd (w1 w n x y) (w1 w n x y).heap.size (some ⟨w.heap.size, 0, none⟩) [mk2 n x y] :=
  (Own.new (w := w) (base := 0) [mk2 n x y] (Nat.zero_le _) (by show 1 ≤ maxLen; decide)).rd (fun m hm => by simp at hm; subst hm; exact h)
theorem rd_two (w : World) {n x y n' x' y' : Int} (h : (mk2 n x y).wf) (h' : (mk2 n' x' y').wf) : Rd (w2 w n x y n' x' y') (w2 w n x y n' x' y').heap.size (some ⟨w.heap.size, 0, none⟩) [mk2 n x y, mk2 n' x' y'] :=
  (Own.new (w := w) (base := 0) [mk2 n x y, mk2 n' x' y'] (Nat.zero_le _) (by show 2 ≤ maxLen; decide)).rd (fun m hm => by
    simp at hm; rcases hm with rfl | rfl
    · exact h
    · exact h')
theorem gr_w1 (w : World) (n x y : Int) : Gr w (w1 w n x y) := (Gr.refl _).alloc _
theorem gr_w2 (w : World) (n x y n' x' y' : Int) : Gr w (w2 w n x y n' x' y') := (Gr.refl _).alloc _
def wi1 (w : World) (n : Int) : World := w.alloc (.cells #[.int .i64 n] 2)
def wi2 (w : World) (n m : Int) : World := w.alloc (.cells #[.int .i64 n, .int .i64 m] 2)
theorem gr_wi1 (w : World) (n : Int) : Gr w (wi1 w n) := (Gr.refl _).alloc _
theorem gr_wi2 (w : World) (n m : Int) : Gr w (wi2 w n m) := (Gr.refl _).alloc _
theorem rdi_one (w : World) {n : Int} (h : -9223372036854775808 ≤ n ∧ n ≤ 9223372036854775807) : RdI (wi1 w n) (wi1 w n).heap.size (some ⟨w.heap.size, 0, none⟩) [n] :=
  ⟨fun d hd => by simp at hd; subst hd; exact h, fun _ => ⟨w.heap.size, 0, rfl, by simp [wi1], fun i hi => by
    have : i = 0 := by simp at hi; exact hi
    subst this
    unfold wi1; go_simp <;> rfl⟩⟩
theorem rdi_two (w : World) {n m : Int} (h : -9223372036854775808 ≤ n ∧ n ≤ 9223372036854775807) (h' : -9223372036854775808 ≤ m ∧ m ≤ 9223372036854775807) : RdI (wi2 w n m) (wi2 w n m).heap.size (some ⟨w.heap.size, 0, none⟩) [n, m] :=
  ⟨fun d hd => by
    simp at hd; rcases hd with rfl | rfl
    · exact h
    · exact h', fun _ => ⟨w.heap.size, 0, rfl, by simp [wi2], fun i hi => by
    have : i = 0 ∨ i = 1 := by simp at hi; omega
    rcases this with rfl | rfl
    · unfold wi2; go_simp <;> rfl
    · unfold wi2; go_simp <;> rfl⟩⟩
theorem size_w2 (w : World) (n x y n' x' y' : Int) : (w2 w n x y n' x' y').heap.size = w.heap.size + 1 := by simp [w2]
theorem rdi_one' (w : World) {n : Int} {g : Nat} (h : -9223372036854775808 ≤ n ∧ n ≤ 9223372036854775807) (hg : w.heap.size = g) : RdI (wi1 w n) (wi1 w n).heap.size (some ⟨g, 0, none⟩) [n] := by
  subst hg; exact rdi_one w h
theorem rdi_two' (w : World) {n m : Int} {g : Nat} (h : -9223372036854775808 ≤ n ∧ n ≤ 9223372036854775807) (h' : -9223372036854775808 ≤ m ∧ m ≤ 9223372036854775807) (hg : w.heap.size = g) : RdI (wi2 w n m) (wi2 w n m).heap.size (some ⟨g, 0, none⟩) [n, m] := by
  subst hg; exact rdi_two w h h'
theorem mul22 {A B : Option Addr} {a a' b b' : Mo} {c d : Nat} {w : World} (h : Rd w w.heap.size A [a, a']) (g : Rd w w.heap.size B [b, b']) : Calls Try.prog 28 #[.slice A 2 c, .slice B 2 d] w (PolyRes w (mulR [a, a'] [b, b'])) :=
  mul_any A B [a, a'] [b, b'] c d w h g (by show 2 ≤ maxLen; decide) (by show 2 ≤ maxLen; decide)
theorem mul11 {A B : Option Addr} {a b : Mo} {c d : Nat} {w : World} (h : Rd w w.heap.size A [a]) (g : Rd w w.heap.size B [b]) : Calls Try.prog 28 #[.slice A 1 c, .slice B 1 d] w (PolyRes w (mulR [a] [b])) :=
  mul_any A B [a] [b] c d w h g (by show 1 ≤ maxLen; decide) (by show 1 ≤ maxLen; decide)
theorem eval22 {A B : Option Addr} {a a' : Mo} {b b' : Int} {c d : Nat} {w : World} (h : Rd w w.heap.size A [a, a']) (g : RdI w w.heap.size B [b, b']) : Calls Try.prog 30 #[.slice A 2 c, .slice B 2 d] w (EvalRes w (evalR [a, a'] [b, b'])) :=
  eval_any A B [a, a'] [b, b'] c d w h g (by show 2 ≤ maxLen; decide) (by show 2 ≤ maxLen; decide)
theorem eval21 {A B : Option Addr} {a a' : Mo} {b : Int} {c d : Nat} {w : World} (h : Rd w w.heap.size A [a, a']) (g : RdI w w.heap.size B [b]) : Calls Try.prog 30 #[.slice A 2 c, .slice B 1 d] w (EvalRes w (evalR [a, a'] [b])) :=
  eval_any A B [a, a'] [b] c d w h g (by show 2 ≤ maxLen; decide) (by show 1 ≤ maxLen; decide)
theorem same22 {A B : Option Addr} {a a' b b' : Mo} {c d : Nat} {w : World} (h : Rd w w.heap.size A [a, a']) (g : Rd w w.heap.size B [b, b']) : Calls Try.prog 23 #[.slice A 2 c, .slice B 2 d] w fun e w' => e = .returned (.bool (sameB [a, a'] [b, b'])) ∧ Gr w w' :=
  same_any A B [a, a'] [b, b'] c d w h g (by show 2 ≤ maxLen; decide)
theorem grows2 {A : Option Addr} {a a' : Mo} {c : Nat} {w : World} (h : Rd w w.heap.size A [a, a']) : Calls Try.prog 14 #[.slice A 2 c] w fun e w' => e = .returned (.bool (growsB [a, a'])) ∧ Gr w w' :=
  grows_any A [a, a'] c w h (by show 2 ≤ maxLen; decide)

set_option maxRecDepth 100000 in
set_option maxHeartbeats 1000000 in
theorem shown_any (w : World) : Calls Try.prog 12 #[] w fun e w' => e = .returned (.bool true) ∧ Below w.heap.size w w' := by
  go_enter Try.func12, Try.ntmps12
  go_wp2_with fail
  refine (at_any _ _ _ _).mono ?_
  rintro e W1 ⟨rfl, h1⟩
  go_wp2_with fail
  refine (at_any _ _ _ _).mono ?_
  rintro e W2 ⟨rfl, h2⟩
  go_wp2_with fail
  refine (at_any _ _ _ _).mono ?_
  rintro e W3 ⟨rfl, h3⟩
  go_wp2_with fail
  refine (at_any _ _ _ _).mono ?_
  rintro e W4 ⟨rfl, h4⟩
  have G3 := Lib.hid (show Gr (w2 W2 1 1 0 1 0 0) W3 from h3)
  have R1 := Lib.hid (((rd_two W2 (mk2_wf (n := 1) (x := 1) (y := 0) (by omega) (by omega) (by omega)) (mk2_wf (n := 1) (x := 0) (y := 0) (by omega) (by omega) (by omega))).gr h3).gr (h4.trans (gr_w2 W4 1 1 0 (-1) 0 0)))
  have R2 := Lib.hid (rd_two W4 (mk2_wf (n := 1) (x := 1) (y := 0) (by omega) (by omega) (by omega)) (mk2_wf (n := -1) (x := 0) (y := 0) (by omega) (by omega) (by omega)))
  have B1 := Lib.hid ((((h1.trans h2).trans (gr_w2 W2 1 1 0 1 0 0)).trans (h3.trans h4)).trans (gr_w2 W4 1 1 0 (-1) 0 0))
  clear h1 h2 h3 h4 G3
  go_wp2_with fail
  have hc := mul22 (c := 2) (d := 2) R1.out R2.out
  rw [shown1] at hc
  refine hc.mono ?_
  clear hc
  rintro e W5 ⟨A1, c1, rfl, ho, hb⟩
  have HO5 := Lib.hid ho
  have B5 := Lib.hid (B1.out.below.trans (hb.mono B1.out.below.size))
  clear ho hb R1 R2
  go_wp2_with fail
  refine (at_any _ _ _ _).mono ?_
  rintro e W6 ⟨rfl, h6⟩
  go_wp2_with fail
  refine (at_any _ _ _ _).mono ?_
  rintro e W7 ⟨rfl, h7⟩
  have R1 := Lib.hid (((rd_one W6 (mk2_wf (n := 1) (x := 8) (y := 0) (by omega) (by omega) (by omega))).gr h7).gr (gr_w1 W7 1 1 0))
  have R2 := Lib.hid (rd_one W7 (mk2_wf (n := 1) (x := 1) (y := 0) (by omega) (by omega) (by omega)))
  have G7 := Lib.hid (((h6.trans (gr_w1 W6 1 8 0)).trans h7).trans (gr_w1 W7 1 1 0))
  clear h6 h7
  go_wp2_with fail
  have hc := mul11 (c := 1) (d := 1) R1.out R2.out
  rw [shown2] at hc
  refine hc.mono ?_
  clear hc
  rintro e W8 ⟨A2, c2, rfl, _, hb⟩
  have G8 := Lib.hid (G7.out.below.trans (hb.mono G7.out.below.size))
  have HO8 := Lib.hid (HO5.out.below G8.out)
  have B8 := Lib.hid (B5.out.trans (G8.out.mono B5.out.size))
  clear hb R1 R2 G7 G8 HO5 B5
  go_wp2_with fail
  refine (at_any _ _ _ _).mono ?_
  rintro e W9 ⟨rfl, h9⟩
  go_wp2_with fail
  refine (at_any _ _ _ _).mono ?_
  rintro e W10 ⟨rfl, h10⟩
  have R1 := Lib.hid ((rd_two W10 (mk2_wf (n := 1) (x := 1) (y := 1) (by omega) (by omega) (by omega)) (mk2_wf (n := -3) (x := 0) (y := 0) (by omega) (by omega) (by omega))).gr (gr_wi2 (w2 W10 1 1 1 (-3) 0 0) 2 5))
  have R2 := Lib.hid (rdi_two' (w2 W10 1 1 1 (-3) 0 0) (n := 2) (m := 5) (by omega) (by omega) (size_w2 W10 1 1 1 (-3) 0 0))
  have G10 := Lib.hid (((h9.trans h10).trans (gr_w2 W10 1 1 1 (-3) 0 0)).trans (gr_wi2 _ 2 5))
  clear h9 h10
  go_wp2_with fail
  have hc := eval22 (c := 2) (d := 2) R1.out R2.out
  rw [shown3] at hc
  refine hc.mono ?_
  clear hc
  rintro e W11 ⟨rfl, hg⟩
  have G11 := Lib.hid (G10.out.trans hg)
  have HO11 := Lib.hid (HO8.out.below G11.out.below)
  have B11 := Lib.hid (B8.out.trans (G11.out.below.mono B8.out.size))
  clear hg R1 R2 G10 G11 HO8 B8
  go_wp2_with fail
  refine (at_any _ _ _ _).mono ?_
  rintro e W12 ⟨rfl, h12⟩
  go_wp2_with fail
  refine (at_any _ _ _ _).mono ?_
  rintro e W13 ⟨rfl, h13⟩
  have R1 := Lib.hid ((rd_two W13 (mk2_wf (n := 1) (x := 2) (y := 0) (by omega) (by omega) (by omega)) (mk2_wf (n := 1) (x := 0) (y := 0) (by omega) (by omega) (by omega))).gr (gr_wi1 (w2 W13 1 2 0 1 0 0) 2147483648))
  have R2 := Lib.hid (rdi_one' (w2 W13 1 2 0 1 0 0) (n := 2147483648) (by omega) (size_w2 W13 1 2 0 1 0 0))
  have G13 := Lib.hid (((h12.trans h13).trans (gr_w2 W13 1 2 0 1 0 0)).trans (gr_wi1 _ 2147483648))
  clear h12 h13
  go_wp2_with fail
  have hc := eval21 (c := 2) (d := 1) R1.out R2.out
  rw [shown4] at hc
  refine hc.mono ?_
  clear hc
  rintro e W14 ⟨rfl, hg⟩
  have G14 := Lib.hid (G13.out.trans hg)
  have HO14 := Lib.hid (HO11.out.below G14.out.below)
  have B14 := Lib.hid (B11.out.trans (G14.out.below.mono B11.out.size))
  clear hg R1 R2 G13 G14 HO11 B11
  go_wp2_with fail
  refine (at_any _ _ _ _).mono ?_
  rintro e W15 ⟨rfl, h15⟩
  go_wp2_with fail
  refine (at_any _ _ _ _).mono ?_
  rintro e W16 ⟨rfl, h16⟩
  have G16 := Lib.hid ((h15.trans h16).trans (gr_w2 W16 1 2 0 (-1) 0 0))
  have HO16 := Lib.hid ((HO14.out.below G16.out.below).rd (fun m hm => by
    simp at hm; rcases hm with rfl | rfl
    · exact (mk2_wf (n := 1) (x := 2) (y := 0) (by omega) (by omega) (by omega))
    · exact (mk2_wf (n := -1) (x := 0) (y := 0) (by omega) (by omega) (by omega))))
  have R2 := Lib.hid (rd_two W16 (mk2_wf (n := 1) (x := 2) (y := 0) (by omega) (by omega) (by omega)) (mk2_wf (n := -1) (x := 0) (y := 0) (by omega) (by omega) (by omega)))
  have B16 := Lib.hid (B14.out.trans (G16.out.below.mono B14.out.size))
  clear h15 h16
  go_wp2_with fail
  have hc := same22 (c := c1) (d := 2) HO16.out R2.out
  rw [show sameB [mk2 1 2 0, mk2 (-1) 0 0] [mk2 1 2 0, mk2 (-1) 0 0] = true from by kernel_rfl] at hc
  refine hc.mono ?_
  clear hc
  rintro e W17 ⟨rfl, hg17⟩
  go_wp2_with fail
  refine (at_any _ _ _ _).mono ?_
  rintro e W18 ⟨rfl, h18⟩
  go_wp2_with fail
  refine (at_any _ _ _ _).mono ?_
  rintro e W19 ⟨rfl, h19⟩
  have R3 := Lib.hid (rd_two W19 (mk2_wf (n := 1) (x := 1) (y := 0) (by omega) (by omega) (by omega)) (mk2_wf (n := -1) (x := 0) (y := 0) (by omega) (by omega) (by omega)))
  have B19 := Lib.hid (B16.out.trans ((((hg17.trans h18).trans h19).trans (gr_w2 W19 1 1 0 (-1) 0 0)).below.mono B16.out.size))
  clear h18 h19 hg17
  go_wp2_with fail
  have hc := grows2 (c := 2) R3.out
  rw [shown5] at hc
  refine hc.mono ?_
  clear hc
  rintro e W20 ⟨rfl, hg20⟩
  have B20 := Lib.hid (B19.out.trans (hg20.below.mono B19.out.size))
  go_wp2
  go_ret
  exact ⟨rfl, B20.out⟩
end Go.Proofs.Ytogflbpphacokaa
