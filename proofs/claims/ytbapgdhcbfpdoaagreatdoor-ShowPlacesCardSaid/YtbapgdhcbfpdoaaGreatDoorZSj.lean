/- Layer 4, put together: ShwO, ShwQ. -/
import Derived.Test.YtbapgdhcbfpdoaaGreatDoorZSh
/- The code's writer: a verb of one value. -/
namespace Go.Proofs.YtbapgdhcbfpdoaaGreatDoor
open Go.RowKit
set_option linter.unusedVariables false
set_option linter.unusedSimpArgs false
set_option maxRecDepth 100000
abbrev itX (x : It) (A : Option Addr) (c : Nat) : Value := itW x.how x.pl x.fn x.nm A x.ns.length c
def sgL (x : It) : List UInt8 := verbW x.fn (x.how != 3) ++ markW x.how
theorem verbW_len (f : Int) (two : Bool) : (verbW f two).length ≤ 5 := by
  rw [lookT_verb]; cases two
  · exact (lookT_len f).1
  · exact (lookT_len f).2
theorem markW_len (h : Int) : (markW h).length ≤ 1 := by
  unfold markW
  split
  · decide
  split
  · decide
  split <;> decide
theorem sgL_len (x : It) : (sgL x).length ≤ 6 := by
  unfold sgL
  have h1 := verbW_len x.fn (x.how != 3)
  have h2 := markW_len x.how
  rw [List.length_append]; omega
theorem pt_le {st : List Pt} {p : Pt} (h : p ∈ st) : p.tk ≤ sumK st := by
  induction st with
  | nil => cases h
  | cons q r ih =>
    rcases List.mem_cons.1 h with rfl | h
    · simp only [sumK]; omega
    · have := ih h
      simp only [sumK]; omega
theorem WS.size {w : World} {R M L d : Nat} {st : List Pt} {v : Value} (h : WS w R M L st v d) (hL : L ≤ 256) {p : Pt} (hp : p ∈ st) : (bs p.s).size ≤ 7000 := by
  rw [bs_size]
  have h1 := h.bnd p hp
  have h2 := pt_le hp
  have h3 := h.sum
  omega
theorem count_le {L d : Nat} {st : List Pt} (h : sumK st + d = L) (hL : L ≤ 256) (hp : ∀ p ∈ st, 1 ≤ p.tk) : st.length ≤ L := by
  have : ∀ st : List Pt, (∀ p ∈ st, 1 ≤ p.tk) → st.length ≤ sumK st := fun st => by
    induction st with
    | nil => intro _; exact Nat.zero_le _
    | cons q r ih =>
      intro hh
      have h1 := hh q (List.mem_cons_self ..)
      have h2 := ih fun p hp => hh p (List.mem_cons_of_mem _ hp)
      simp only [List.length_cons, sumK]; omega
  have := this st hp
  omega
set_option maxHeartbeats 3200000 in
theorem ofOne_yes (w : World) (R M L d : Nat) (p : Pt) (r : List Pt) (v : Value) (x : It) (A : Option Addr) (c : Nat) (h : WS w R M L (p :: r) v d) (hL : L ≤ 256) (hl : r.length ≤ 1000) (hn : 1 + (markW x.how).length ≤ d)
    (HSg : ∀ W : World, WB W R M v d → Calls Tryz.prog 102 #[.pointer (some ⟨R, 0, none⟩), itX x A c] W (SgYes W R M v d x.how x.fn)) (hmon : (monP x p).tk = 1 + (markW x.how).length + p.tk) :
    Calls Tryz.prog 82 #[.pointer (some ⟨R, 0, none⟩), itX x A c] w fun e w' => e = .returned (.bool true) ∧ Below R w w' ∧ ∃ v' d', WS w' R M L (monP x p :: r) v' d' := by
  have hlt := h.box.blt
  have HS := Lib.hid h
  unfold itX itW at HSg ⊢
  have HG := Lib.hid HSg
  have hz1 : (bs (verbW x.fn (x.how != 3) ++ markW x.how)).size ≤ 6 := by rw [bs_size]; exact sgL_len x
  have hz2 := h.size hL (List.mem_cons_self ..)
  have HD := Lib.hid (And.intro hn hmon)
  have hn1 : decide (1 + ((markW x.how).length : Int) ≤ d) = true := decide_eq_true (by omega)
  have hcat : (bs (verbW x.fn (x.how != 3) ++ markW x.how) ++ ⟨#[32]⟩) ++ bs p.s = bs (monP x p).s := by
    rw [show (⟨#[32]⟩ : ByteArray) = bs [32] from rfl, cat_bs, cat_bs]
    unfold monP
    simp
  have HC := Lib.hid hcat
  clear h HSg hn hmon hcat
  go_enter Tryz.func82, Tryz.ntmps82
  go_wp2_with fail
  have hWb : Below w.heap.size w (w.alloc (.cells #[.int .i64 x.how, .int .i64 x.pl, .int .u8 x.fn, .string (bs x.nm), .slice A x.ns.length c] 37)) := (Below.refl _ _).alloc (Nat.le_refl _) _
  refine (HG.out _ (HS.out.box.below hWb)).mono ?_
  rintro e W2 ⟨rfl, hb2, hB2, hk2⟩
  have O2 := Lib.hid (hk2 _ (HS.out.own.below hWb))
  have B2 := Lib.hid ((hWb.mono (Nat.le_of_lt hlt)).trans hB2)
  rw [hn1]
  have X2 := Lib.hid hb2
  obtain ⟨c0, c1, c2, f1, f2⟩ := hb2.cells
  have hr := O2.out
  obtain ⟨A2, m2, e2, hm2⟩ := hr.shape
  simp only [List.length_reverse, List.length_cons] at e2
  subst e2
  clear hb2 hB2 hk2 hr hWb
  go_wp2_with fail
  refine (take1_any W2 R M _ _ r.reverse p X2.out (by simpa using O2.out) (by simpa using (by omega : r.length ≤ 1000000))).mono ?_
  rintro e W3 ⟨rfl, v3, x3, o3, b3, _⟩
  have hlt3 := x3.blt
  have X3 := Lib.hid x3
  have O3 := Lib.hid o3
  have B3 := Lib.hid (B2.out.trans b3)
  clear x3 o3 b3 c0 c1 c2 f1 f2
  go_wp2_with fail
  rw [HC.out]
  have hWb3 : Below W3.heap.size W3 (W3.alloc (.cells #[.string (bs p.s), .bool p.pl, .int .i64 p.ne] 110)) := (Below.refl _ _).alloc (Nat.le_refl _) _
  refine (put_any _ R M v3 _ r.reverse (monP x p) (X3.out.below hWb3) (O3.out.below hWb3) (by simpa using (by omega : r.length ≤ 1000000))).mono ?_
  rintro e W4 ⟨rfl, v4, x4, o4, b4⟩
  have hfin : Below R w W4 ∧ ∃ v' d', WS W4 R M L (monP x p :: r) v' d' := by
    refine ⟨B3.out.trans ((hWb3.mono (Nat.le_of_lt hlt3)).trans b4), v4, d - (1 + (markW x.how).length), ⟨?_, by simpa using o4, ?_, ?_, ?_⟩⟩
    · have e1 : ((d - (1 + (markW x.how).length) : Nat) : Int) = (d : Int) - (1 + ((markW x.how).length : Int)) := by have := HD.out.1; omega
      rw [e1]; exact x4
    · have h1 := HS.out.sum
      have h2 := HD.out
      simp only [sumK] at h1 ⊢
      rw [h2.2]; omega
    · have h1 := HS.out.ne
      rw [neK_cons] at h1 ⊢
      exact h1
    · intro q hq
      rcases List.mem_cons.1 hq with rfl | hq
      · have h1 := HS.out.bnd p (List.mem_cons_self ..)
        have h2 := sgL_len x
        rw [HD.out.2]
        show (verbW x.fn (x.how != 3) ++ markW x.how ++ 32 :: p.s).length ≤ _
        have h3 : (verbW x.fn (x.how != 3) ++ markW x.how).length ≤ 6 := h2
        rw [List.length_append, List.length_cons]
        omega
      · exact HS.out.bnd q (List.mem_cons_of_mem _ hq)
  go_wp2
  go_ret
  exact ⟨rfl, hfin⟩
set_option maxHeartbeats 3200000 in
theorem ofOne_nosign (w : World) (R M L d : Nat) (st : List Pt) (v : Value) (x : It) (A : Option Addr) (c : Nat) (h : WS w R M L st v d)
    (HSg : ∀ W : World, WB W R M v d → Calls Tryz.prog 102 #[.pointer (some ⟨R, 0, none⟩), itX x A c] W (SgNo W R)) :
    Calls Tryz.prog 82 #[.pointer (some ⟨R, 0, none⟩), itX x A c] w fun e w' => e = .returned (.bool false) ∧ Below R w w' := by
  have hlt := h.box.blt
  have HS := Lib.hid h
  unfold itX itW at HSg ⊢
  have HG := Lib.hid HSg
  clear h HSg
  go_enter Tryz.func82, Tryz.ntmps82
  go_wp2_with fail
  have hWb : Below w.heap.size w (w.alloc (.cells #[.int .i64 x.how, .int .i64 x.pl, .int .u8 x.fn, .string (bs x.nm), .slice A x.ns.length c] 37)) := (Below.refl _ _).alloc (Nat.le_refl _) _
  refine (HG.out _ (HS.out.box.below hWb)).mono ?_
  rintro e W2 ⟨rfl, hB2⟩
  have B2 := Lib.hid ((hWb.mono (Nat.le_of_lt hlt)).trans hB2)
  clear hB2 hWb
  go_wp2
  go_ret
  exact ⟨rfl, B2.out⟩
set_option maxHeartbeats 3200000 in
theorem ofOne_nofit (w : World) (R M L d : Nat) (st : List Pt) (v : Value) (x : It) (A : Option Addr) (c : Nat) (h : WS w R M L st v d) (hn : ¬ 1 + (markW x.how).length ≤ d)
    (HSg : ∀ W : World, WB W R M v d → Calls Tryz.prog 102 #[.pointer (some ⟨R, 0, none⟩), itX x A c] W (SgYes W R M v d x.how x.fn)) :
    Calls Tryz.prog 82 #[.pointer (some ⟨R, 0, none⟩), itX x A c] w fun e w' => e = .returned (.bool false) ∧ Below R w w' := by
  have hlt := h.box.blt
  have HS := Lib.hid h
  unfold itX itW at HSg ⊢
  have HG := Lib.hid HSg
  have hn1 : decide (1 + ((markW x.how).length : Int) ≤ d) = false := decide_eq_false (by omega)
  clear h HSg hn
  go_enter Tryz.func82, Tryz.ntmps82
  go_wp2_with fail
  have hWb : Below w.heap.size w (w.alloc (.cells #[.int .i64 x.how, .int .i64 x.pl, .int .u8 x.fn, .string (bs x.nm), .slice A x.ns.length c] 37)) := (Below.refl _ _).alloc (Nat.le_refl _) _
  refine (HG.out _ (HS.out.box.below hWb)).mono ?_
  rintro e W2 ⟨rfl, hb2, hB2, hk2⟩
  have B2 := Lib.hid ((hWb.mono (Nat.le_of_lt hlt)).trans hB2)
  rw [hn1]
  clear hb2 hk2 hB2 hWb
  go_wp2
  go_ret
  exact ⟨rfl, B2.out⟩
set_option maxHeartbeats 3200000 in
theorem ofOne_few0 (w : World) (R M L d : Nat) (v : Value) (x : It) (A : Option Addr) (c : Nat) (h : WS w R M L [] v d) (hn : 1 + (markW x.how).length ≤ d)
    (HSg : ∀ W : World, WB W R M v d → Calls Tryz.prog 102 #[.pointer (some ⟨R, 0, none⟩), itX x A c] W (SgYes W R M v d x.how x.fn)) :
    Calls Tryz.prog 82 #[.pointer (some ⟨R, 0, none⟩), itX x A c] w fun e w' => e = .returned (.bool false) ∧ Below R w w' := by
  have hlt := h.box.blt
  have HS := Lib.hid h
  unfold itX itW at HSg ⊢
  have HG := Lib.hid HSg
  have hn1 : decide (1 + ((markW x.how).length : Int) ≤ d) = true := decide_eq_true (by omega)
  clear h HSg hn
  go_enter Tryz.func82, Tryz.ntmps82
  go_wp2_with fail
  have hWb : Below w.heap.size w (w.alloc (.cells #[.int .i64 x.how, .int .i64 x.pl, .int .u8 x.fn, .string (bs x.nm), .slice A x.ns.length c] 37)) := (Below.refl _ _).alloc (Nat.le_refl _) _
  refine (HG.out _ (HS.out.box.below hWb)).mono ?_
  rintro e W2 ⟨rfl, hb2, hB2, hk2⟩
  have B2 := Lib.hid ((hWb.mono (Nat.le_of_lt hlt)).trans hB2)
  rw [hn1]
  obtain ⟨c0, c1, c2, f1, f2⟩ := hb2.cells
  obtain ⟨A2, m2, e2, hm2⟩ := (hk2 _ (HS.out.own.below hWb)).shape
  simp only [List.length_reverse, List.length_cons, List.length_nil] at e2
  subst e2
  clear hb2 hk2 hB2 hWb
  go_wp2
  go_ret
  exact ⟨rfl, B2.out⟩
end Go.Proofs.YtbapgdhcbfpdoaaGreatDoor
/- The code's writer: a verb between two values. Written by gen_sho.py. -/
namespace Go.Proofs.YtbapgdhcbfpdoaaGreatDoor
open Go.RowKit
set_option linter.unusedVariables false
set_option linter.unusedSimpArgs false
set_option maxRecDepth 100000
set_option maxHeartbeats 3200000 in
theorem ofTwo_bare (w : World) (R M L d : Nat) (p q : Pt) (r : List Pt) (v : Value) (x : It) (A : Option Addr) (c : Nat) (h : WS w R M L (q :: p :: r) v d) (hL : L ≤ 256) (hl : r.length ≤ 1000) (hn : 1 + (markW x.how).length ≤ d) (hpl : p.pl = true)
    (HSg : ∀ W : World, WB W R M v d → Calls Tryz.prog 102 #[.pointer (some ⟨R, 0, none⟩), itX x A c] W (SgYes W R M v d x.how x.fn)) (hmon : (dyP x p q).tk = (brkP p).tk + (1 + (markW x.how).length) + q.tk) :
    Calls Tryz.prog 83 #[.pointer (some ⟨R, 0, none⟩), itX x A c] w fun e w' => e = .returned (.bool true) ∧ Below R w w' ∧ ∃ v' d', WS w' R M L (dyP x p q :: r) v' d' := by
  have hlt := h.box.blt
  have HS := Lib.hid h
  unfold itX itW at HSg ⊢
  have HG := Lib.hid HSg
  have hz1 : (bs (verbW x.fn (x.how != 3) ++ markW x.how)).size ≤ 6 := by rw [bs_size]; exact sgL_len x
  have hz2 := h.size hL (List.mem_cons_self ..)
  have hz3 := h.size hL (List.mem_cons_of_mem _ (List.mem_cons_self ..))
  have hq0 : (q.ne : Int) ≤ 32 ∧ (p.ne : Int) ≤ 32 := by
    have := h.ne
    rw [neK_cons, neK_cons] at this
    simp only [Bool.and_eq_true, decide_eq_true_eq] at this
    omega
  have HQ := Lib.hid hq0
  have hn1 : decide (1 + ((markW x.how).length : Int) ≤ d) = true := decide_eq_true (by omega)
  have hcat : ((bs p.s ++ ⟨#[32]⟩) ++ bs (verbW x.fn (x.how != 3) ++ markW x.how)) ++ ⟨#[32]⟩ ++ bs q.s = bs (dyP x p q).s := by
    rw [show (⟨#[32]⟩ : ByteArray) = bs [32] from rfl, cat_bs, cat_bs, cat_bs, cat_bs]
    unfold dyP brkP
    rw [if_pos hpl]
    simp
  have hb : brkP p = p := by unfold brkP; rw [if_pos hpl]
  have hne' : (dyP x p q).ne = max p.ne q.ne := by unfold dyP; rw [hb]
  have HD := Lib.hid (And.intro hn (And.intro hmon (And.intro hb hne')))
  have HC := Lib.hid hcat
  clear hcat
  have HPL := Lib.hid hpl
  have hwr : wrap64 ((p.ne : Int) + 1) = (p.ne : Int) + 1 := by unfold wrap64; omega
  clear h HSg hn hmon hq0 hpl
  go_enter Tryz.func83, Tryz.ntmps83
  go_wp2_with fail
  have hWb : Below w.heap.size w (w.alloc (.cells #[.int .i64 x.how, .int .i64 x.pl, .int .u8 x.fn, .string (bs x.nm), .slice A x.ns.length c] 37)) := (Below.refl _ _).alloc (Nat.le_refl _) _
  refine (HG.out _ (HS.out.box.below hWb)).mono ?_
  rintro e W2 ⟨rfl, hb2, hB2, hk2⟩
  have O2 := Lib.hid (hk2 _ (HS.out.own.below hWb))
  have B2 := Lib.hid ((hWb.mono (Nat.le_of_lt hlt)).trans hB2)
  rw [hn1]
  have X2 := Lib.hid hb2
  obtain ⟨c0, c1, c2, f1, f2⟩ := hb2.cells
  have hr := O2.out
  obtain ⟨A2, m2, e2, hm2⟩ := hr.shape
  simp only [List.length_reverse, List.length_cons] at e2
  subst e2
  clear hb2 hB2 hk2 hr hWb
  go_wp2_with fail
  refine (take1_any W2 R M _ _ (r.reverse ++ [p]) q X2.out (by simpa using O2.out) (by simp; omega)).mono ?_
  rintro e W3 ⟨rfl, v3, x3, o3, b3, _⟩
  obtain ⟨c3, _, c3', _, f3⟩ := x3.cells
  have hlt3 := x3.blt
  have X3 := Lib.hid x3
  have O3 := Lib.hid o3
  have B3 := Lib.hid (B2.out.trans b3)
  clear x3 o3 b3 c0 c1 c2 f1 f2 B2 O2 X2
  have hWb3 : Below W3.heap.size W3 (W3.alloc (.cells #[.string (bs q.s), .bool q.pl, .int .i64 q.ne] 110)) := (Below.refl _ _).alloc (Nat.le_refl _) _
  have y0 := heap_alloc_new W3 (.cells #[.string (bs q.s), .bool q.pl, .int .i64 q.ne] 110)
  obtain ⟨W4, hW4⟩ : ∃ W, W = W3.alloc (.cells #[.string (bs q.s), .bool q.pl, .int .i64 q.ne] 110) := ⟨_, rfl⟩
  rw [← hW4] at hWb3 y0
  have H4 := Lib.hid hW4
  have hs4 : W4.heap.size = W3.heap.size + 1 := by rw [hW4]; simp
  clear hW4 c3 c3' f3
  go_wp2_with fail
  rw [← H4.out]
  refine (take1_any W4 R M _ _ r.reverse p (X3.out.below hWb3) (O3.out.below hWb3) (by simp; omega)).mono ?_
  rintro e W5 ⟨rfl, v5, x5, o5, b5, g5⟩
  have y5 := (g5.block W3.heap.size (by omega) (by omega)).trans y0
  have hlt5 := x5.blt
  have hz5 := b5.size
  have X5 := Lib.hid x5
  have O5 := Lib.hid o5
  have B5 := Lib.hid (B3.out.trans ((hWb3.mono (Nat.le_of_lt hlt3)).trans b5))
  have u0 : W5.cell? ⟨W3.heap.size, 0, none⟩ = some (.string (bs q.s)) := by rw [cell_of_row _ _ _ _ _ _ y5]; rfl
  have u2 : W5.cell? ⟨W3.heap.size, 2, none⟩ = some (.int .i64 q.ne) := by rw [cell_of_row _ _ _ _ _ _ y5]; rfl
  rw [HPL.out]
  have hW3 : W3.heap.size < W5.heap.size := by omega
  have hRn : R < W3.heap.size := hlt3
  clear y5 y0 x5 o5 b5 g5 hWb3
  go_wp2_with fail
  rw [HC.out, show (max (p.ne : Int) (q.ne : Int)) = ((dyP x p q).ne : Int) by rw [HD.out.2.2.2]; omega]
  have hWb6 : Below W5.heap.size W5 (W5.alloc (.cells #[.string (bs p.s), .bool true, .int .i64 p.ne] 110)) := (Below.refl _ _).alloc (Nat.le_refl _) _
  refine (put_any _ R M v5 _ r.reverse (dyP x p q) (X5.out.below hWb6) (O5.out.below hWb6) (by simp; omega)).mono ?_
  rintro e W9 ⟨rfl, v9, x9, o9, b9⟩
  have B9 := Lib.hid (B5.out.trans ((hWb6.mono (Nat.le_of_lt hlt5)).trans b9))
  clear hWb6 b9
  have hfin : Below R w W9 ∧ ∃ v' d', WS W9 R M L (dyP x p q :: r) v' d' := by
    refine ⟨B9.out, v9, d - (1 + (markW x.how).length), ⟨?_, by simpa using o9, ?_, ?_, ?_⟩⟩
    · have e1 : ((d - (1 + (markW x.how).length) : Nat) : Int) = (d : Int) - (1 + ((markW x.how).length : Int)) := by have := HD.out; omega
      rw [e1]; exact x9
    · have h1 := HS.out.sum
      have h2 := HD.out
      simp only [sumK] at h1 ⊢
      rw [h2.2.1, h2.2.2.1]; omega
    · have h1 := HS.out.ne
      rw [neK_cons, neK_cons] at h1
      simp only [Bool.and_eq_true] at h1
      rw [neK_cons, h1.2.2, Bool.and_true, HD.out.2.2.2]
      have h2 := HQ.out
      have h3 := HD.out
      exact decide_eq_true (by omega)
    · intro y hy
      rcases List.mem_cons.1 hy with rfl | hy
      · have h1 := HS.out.bnd q (List.mem_cons_self ..)
        have h0 := HS.out.bnd p (List.mem_cons_of_mem _ (List.mem_cons_self ..))
        have h3 : (verbW x.fn (x.how != 3) ++ markW x.how).length ≤ 6 := sgL_len x
        rw [HD.out.2.1, HD.out.2.2.1]
        show ((brkP p).s ++ 32 :: (verbW x.fn (x.how != 3) ++ markW x.how ++ 32 :: q.s)).length ≤ _
        rw [HD.out.2.2.1]
        simp only [List.length_append, List.length_cons, List.length_nil] at h3 ⊢
        omega
      · exact HS.out.bnd y (List.mem_cons_of_mem _ (List.mem_cons_of_mem _ hy))
  go_wp2
  go_ret
  exact ⟨rfl, hfin⟩
set_option maxHeartbeats 3200000 in
theorem ofTwo_brk (w : World) (R M L d : Nat) (p q : Pt) (r : List Pt) (v : Value) (x : It) (A : Option Addr) (c : Nat) (h : WS w R M L (q :: p :: r) v d) (hL : L ≤ 256) (hl : r.length ≤ 1000) (hn : 1 + (markW x.how).length ≤ d) (hpl : p.pl = false) (hne : p.ne + 1 ≤ 32) (h2 : 1 + (markW x.how).length + 2 ≤ d)
    (HSg : ∀ W : World, WB W R M v d → Calls Tryz.prog 102 #[.pointer (some ⟨R, 0, none⟩), itX x A c] W (SgYes W R M v d x.how x.fn)) (hmon : (dyP x p q).tk = (brkP p).tk + (1 + (markW x.how).length) + q.tk) :
    Calls Tryz.prog 83 #[.pointer (some ⟨R, 0, none⟩), itX x A c] w fun e w' => e = .returned (.bool true) ∧ Below R w w' ∧ ∃ v' d', WS w' R M L (dyP x p q :: r) v' d' := by
  have hlt := h.box.blt
  have HS := Lib.hid h
  unfold itX itW at HSg ⊢
  have HG := Lib.hid HSg
  have hz1 : (bs (verbW x.fn (x.how != 3) ++ markW x.how)).size ≤ 6 := by rw [bs_size]; exact sgL_len x
  have hz2 := h.size hL (List.mem_cons_self ..)
  have hz3 := h.size hL (List.mem_cons_of_mem _ (List.mem_cons_self ..))
  have hq0 : (q.ne : Int) ≤ 32 ∧ (p.ne : Int) ≤ 32 := by
    have := h.ne
    rw [neK_cons, neK_cons] at this
    simp only [Bool.and_eq_true, decide_eq_true_eq] at this
    omega
  have HQ := Lib.hid hq0
  have hn1 : decide (1 + ((markW x.how).length : Int) ≤ d) = true := decide_eq_true (by omega)
  have hcat : ((((⟨#[40]⟩ ++ bs p.s) ++ ⟨#[41]⟩) ++ ⟨#[32]⟩) ++ bs (verbW x.fn (x.how != 3) ++ markW x.how)) ++ ⟨#[32]⟩ ++ bs q.s = bs (dyP x p q).s := by
    rw [show (⟨#[32]⟩ : ByteArray) = bs [32] from rfl, show (⟨#[40]⟩ : ByteArray) = bs [40] from rfl, show (⟨#[41]⟩ : ByteArray) = bs [41] from rfl, cat_bs, cat_bs, cat_bs, cat_bs, cat_bs, cat_bs]
    unfold dyP brkP
    rw [if_neg (by rw [hpl]; decide)]
    simp
  have hb : brkP p = ⟨40 :: (p.s ++ [41]), false, p.tk + 2, p.ne + 1⟩ := by unfold brkP; rw [if_neg (by rw [hpl]; decide)]
  have hne' : (dyP x p q).ne = max (p.ne + 1) q.ne := by unfold dyP; rw [hb]
  have HD := Lib.hid (And.intro hn (And.intro hmon (And.intro hb (And.intro hne' (And.intro hne h2)))))
  have hn2 : decide ((2 : Int) ≤ (d : Int) - (1 + ((markW x.how).length : Int))) = true := decide_eq_true (by omega)
  have hn3 : decide ((32 : Int) < (p.ne : Int) + 1) = false := decide_eq_false (by omega)
  have HC := Lib.hid hcat
  clear hcat
  have HPL := Lib.hid hpl
  have hwr : wrap64 ((p.ne : Int) + 1) = (p.ne : Int) + 1 := by unfold wrap64; omega
  clear h HSg hn hmon hq0 hpl hne h2
  go_enter Tryz.func83, Tryz.ntmps83
  go_wp2_with fail
  have hWb : Below w.heap.size w (w.alloc (.cells #[.int .i64 x.how, .int .i64 x.pl, .int .u8 x.fn, .string (bs x.nm), .slice A x.ns.length c] 37)) := (Below.refl _ _).alloc (Nat.le_refl _) _
  refine (HG.out _ (HS.out.box.below hWb)).mono ?_
  rintro e W2 ⟨rfl, hb2, hB2, hk2⟩
  have O2 := Lib.hid (hk2 _ (HS.out.own.below hWb))
  have B2 := Lib.hid ((hWb.mono (Nat.le_of_lt hlt)).trans hB2)
  rw [hn1]
  have X2 := Lib.hid hb2
  obtain ⟨c0, c1, c2, f1, f2⟩ := hb2.cells
  have hr := O2.out
  obtain ⟨A2, m2, e2, hm2⟩ := hr.shape
  simp only [List.length_reverse, List.length_cons] at e2
  subst e2
  clear hb2 hB2 hk2 hr hWb
  go_wp2_with fail
  refine (take1_any W2 R M _ _ (r.reverse ++ [p]) q X2.out (by simpa using O2.out) (by simp; omega)).mono ?_
  rintro e W3 ⟨rfl, v3, x3, o3, b3, _⟩
  obtain ⟨c3, _, c3', _, f3⟩ := x3.cells
  have hlt3 := x3.blt
  have X3 := Lib.hid x3
  have O3 := Lib.hid o3
  have B3 := Lib.hid (B2.out.trans b3)
  clear x3 o3 b3 c0 c1 c2 f1 f2 B2 O2 X2
  have hWb3 : Below W3.heap.size W3 (W3.alloc (.cells #[.string (bs q.s), .bool q.pl, .int .i64 q.ne] 110)) := (Below.refl _ _).alloc (Nat.le_refl _) _
  have y0 := heap_alloc_new W3 (.cells #[.string (bs q.s), .bool q.pl, .int .i64 q.ne] 110)
  obtain ⟨W4, hW4⟩ : ∃ W, W = W3.alloc (.cells #[.string (bs q.s), .bool q.pl, .int .i64 q.ne] 110) := ⟨_, rfl⟩
  rw [← hW4] at hWb3 y0
  have H4 := Lib.hid hW4
  have hs4 : W4.heap.size = W3.heap.size + 1 := by rw [hW4]; simp
  clear hW4 c3 c3' f3
  go_wp2_with fail
  rw [← H4.out]
  refine (take1_any W4 R M _ _ r.reverse p (X3.out.below hWb3) (O3.out.below hWb3) (by simp; omega)).mono ?_
  rintro e W5 ⟨rfl, v5, x5, o5, b5, g5⟩
  have y5 := (g5.block W3.heap.size (by omega) (by omega)).trans y0
  have hlt5 := x5.blt
  have hz5 := b5.size
  have X5 := Lib.hid x5
  have O5 := Lib.hid o5
  have B5 := Lib.hid (B3.out.trans ((hWb3.mono (Nat.le_of_lt hlt3)).trans b5))
  have u0 : W5.cell? ⟨W3.heap.size, 0, none⟩ = some (.string (bs q.s)) := by rw [cell_of_row _ _ _ _ _ _ y5]; rfl
  have u2 : W5.cell? ⟨W3.heap.size, 2, none⟩ = some (.int .i64 q.ne) := by rw [cell_of_row _ _ _ _ _ _ y5]; rfl
  rw [HPL.out]
  have hW3 : W3.heap.size < W5.heap.size := by omega
  have hRn : R < W3.heap.size := hlt3
  clear y5 y0 x5 o5 b5 g5 hWb3
  go_wp2_with fail
  obtain ⟨W7, hW7⟩ : ∃ W, W = W5.alloc (.cells #[.string (⟨#[40]⟩ ++ bs p.s ++ ⟨#[41]⟩), .bool false, .int .i64 (p.ne + 1)] 110) := ⟨_, rfl⟩
  rw [← hW7]
  have y7 : W7.heap[W5.heap.size]? = some (.cells #[.string (⟨#[40]⟩ ++ bs p.s ++ ⟨#[41]⟩), .bool false, .int .i64 (p.ne + 1)] 110 (0, 0)) := by
    rw [hW7]; exact heap_alloc_new W5 _
  have k7 : ∀ k, k < W5.heap.size → W7.heap[k]? = W5.heap[k]? := fun k hk => by
    rw [hW7]; exact heap_alloc_old W5 _ hk
  have hWb7 : Below W5.heap.size W5 W7 := by rw [hW7]; exact (Below.refl _ _).alloc (Nat.le_refl _) _
  have x7 := X5.out.below hWb7
  have o7 := O5.out.below hWb7
  have hz7 := hWb7.size
  have u7 := (World.cell?_of_block (w' := W7) (a := ⟨W3.heap.size, 0, none⟩) (k7 _ hW3)).trans u0
  have u8 := (World.cell?_of_block (w' := W7) (a := ⟨W3.heap.size, 2, none⟩) (k7 _ hW3)).trans u2
  have hl7 : W5.heap.size < W7.heap.size := by
    rcases Nat.lt_or_ge W5.heap.size W7.heap.size with h | h
    · exact h
    · rw [Array.getElem?_eq_none h] at y7; cases y7
  clear hW7 u0 u2
  refine (spend_any W7 R M v5 _ 2 x7 (by have := HD.out; have := HS.out.sum; omega) (by decide)).mono ?_
  rintro e W8 ⟨rfl, hW8⟩
  rw [hn2]
  have x8 := x7.left ((d : Int) - (1 + ((markW x.how).length : Int)) - 2)
  have o8 : OV (W7.setCell ⟨R, 2, none⟩ (.int .i64 ((d : Int) - (1 + ((markW x.how).length : Int)) - 2))) (R + 1) v5 r.reverse := o7.set (by omega)
  have b8 := set_bel W7 R 2 (.int .i64 ((d : Int) - (1 + ((markW x.how).length : Int)) - 2))
  have y8 := (set_oth (w := W7) (R := R) (o := 2) (v := .int .i64 ((d : Int) - (1 + ((markW x.how).length : Int)) - 2)) (k := W5.heap.size) (by omega)).trans y7
  have k8 := set_oth (w := W7) (R := R) (o := 2) (v := .int .i64 ((d : Int) - (1 + ((markW x.how).length : Int)) - 2)) (k := W3.heap.size) (by omega)
  rw [← hW8] at x8 o8 b8 y8 k8
  have z0 : W8.cell? ⟨W5.heap.size, 0, none⟩ = some (.string (⟨#[40]⟩ ++ bs p.s ++ ⟨#[41]⟩)) := by rw [cell_of_row _ _ _ _ _ _ y8]; rfl
  have z2 : W8.cell? ⟨W5.heap.size, 2, none⟩ = some (.int .i64 (p.ne + 1)) := by rw [cell_of_row _ _ _ _ _ _ y8]; rfl
  have z3 := (World.cell?_of_block (w' := W8) (a := ⟨W3.heap.size, 0, none⟩) k8).trans u7
  have z4 := (World.cell?_of_block (w' := W8) (a := ⟨W3.heap.size, 2, none⟩) k8).trans u8
  have B8 := Lib.hid (B5.out.trans ((hWb7.mono (Nat.le_of_lt hlt5)).trans b8))
  have X8 := Lib.hid x8
  have O8 := Lib.hid o8
  clear hW8 x7 o7 y7 y8 k8 u7 u8 x8 o8 b8 hWb7 k7
  go_wp2_with fail
  rw [HC.out, show (max ((p.ne : Int) + 1) (q.ne : Int)) = ((dyP x p q).ne : Int) by rw [HD.out.2.2.2.1]; omega]
  refine (put_any _ R M v5 _ r.reverse (dyP x p q) X8.out O8.out (by simp; omega)).mono ?_
  rintro e W9 ⟨rfl, v9, x9, o9, b9⟩
  have B9 := Lib.hid (B8.out.trans b9)
  clear b9
  have hfin : Below R w W9 ∧ ∃ v' d', WS W9 R M L (dyP x p q :: r) v' d' := by
    refine ⟨B9.out, v9, d - (1 + (markW x.how).length) - 2, ⟨?_, by simpa using o9, ?_, ?_, ?_⟩⟩
    · have e1 : ((d - (1 + (markW x.how).length) - 2 : Nat) : Int) = (d : Int) - (1 + ((markW x.how).length : Int)) - 2 := by have := HD.out; omega
      rw [e1]; exact x9
    · have h1 := HS.out.sum
      have h2 := HD.out
      simp only [sumK] at h1 ⊢
      rw [h2.2.1, h2.2.2.1]; have e5 : (⟨40 :: (p.s ++ [41]), false, p.tk + 2, p.ne + 1⟩ : Pt).tk = p.tk + 2 := rfl; rw [e5]; omega
    · have h1 := HS.out.ne
      rw [neK_cons, neK_cons] at h1
      simp only [Bool.and_eq_true] at h1
      rw [neK_cons, h1.2.2, Bool.and_true, HD.out.2.2.2.1]
      have h2 := HQ.out
      have h3 := HD.out
      exact decide_eq_true (by omega)
    · intro y hy
      rcases List.mem_cons.1 hy with rfl | hy
      · have h1 := HS.out.bnd q (List.mem_cons_self ..)
        have h0 := HS.out.bnd p (List.mem_cons_of_mem _ (List.mem_cons_self ..))
        have h3 : (verbW x.fn (x.how != 3) ++ markW x.how).length ≤ 6 := sgL_len x
        rw [HD.out.2.1, HD.out.2.2.1]
        show ((brkP p).s ++ 32 :: (verbW x.fn (x.how != 3) ++ markW x.how ++ 32 :: q.s)).length ≤ _
        rw [HD.out.2.2.1]
        simp only [List.length_append, List.length_cons, List.length_nil] at h3 ⊢
        omega
      · exact HS.out.bnd y (List.mem_cons_of_mem _ (List.mem_cons_of_mem _ hy))
  go_wp2
  go_ret
  exact ⟨rfl, hfin⟩
set_option maxHeartbeats 3200000 in
theorem ofTwo_nest (w : World) (R M L d : Nat) (p q : Pt) (r : List Pt) (v : Value) (x : It) (A : Option Addr) (c : Nat) (h : WS w R M L (q :: p :: r) v d) (hL : L ≤ 256) (hl : r.length ≤ 1000) (hn : 1 + (markW x.how).length ≤ d) (hpl : p.pl = false) (hne : ¬ p.ne + 1 ≤ 32)
    (HSg : ∀ W : World, WB W R M v d → Calls Tryz.prog 102 #[.pointer (some ⟨R, 0, none⟩), itX x A c] W (SgYes W R M v d x.how x.fn)) (hmon : (dyP x p q).tk = (brkP p).tk + (1 + (markW x.how).length) + q.tk) :
    Calls Tryz.prog 83 #[.pointer (some ⟨R, 0, none⟩), itX x A c] w fun e w' => e = .returned (.bool false) ∧ Below R w w' := by
  have hlt := h.box.blt
  have HS := Lib.hid h
  unfold itX itW at HSg ⊢
  have HG := Lib.hid HSg
  have hz1 : (bs (verbW x.fn (x.how != 3) ++ markW x.how)).size ≤ 6 := by rw [bs_size]; exact sgL_len x
  have hz2 := h.size hL (List.mem_cons_self ..)
  have hz3 := h.size hL (List.mem_cons_of_mem _ (List.mem_cons_self ..))
  have hq0 : (q.ne : Int) ≤ 32 ∧ (p.ne : Int) ≤ 32 := by
    have := h.ne
    rw [neK_cons, neK_cons] at this
    simp only [Bool.and_eq_true, decide_eq_true_eq] at this
    omega
  have HQ := Lib.hid hq0
  have hn1 : decide (1 + ((markW x.how).length : Int) ≤ d) = true := decide_eq_true (by omega)
  have HD := Lib.hid hn
  have hn3 : decide ((32 : Int) < (p.ne : Int) + 1) = true := decide_eq_true (by omega)
  have HPL := Lib.hid hpl
  have hwr : wrap64 ((p.ne : Int) + 1) = (p.ne : Int) + 1 := by unfold wrap64; omega
  clear h HSg hn hmon hq0 hpl hne
  go_enter Tryz.func83, Tryz.ntmps83
  go_wp2_with fail
  have hWb : Below w.heap.size w (w.alloc (.cells #[.int .i64 x.how, .int .i64 x.pl, .int .u8 x.fn, .string (bs x.nm), .slice A x.ns.length c] 37)) := (Below.refl _ _).alloc (Nat.le_refl _) _
  refine (HG.out _ (HS.out.box.below hWb)).mono ?_
  rintro e W2 ⟨rfl, hb2, hB2, hk2⟩
  have O2 := Lib.hid (hk2 _ (HS.out.own.below hWb))
  have B2 := Lib.hid ((hWb.mono (Nat.le_of_lt hlt)).trans hB2)
  rw [hn1]
  have X2 := Lib.hid hb2
  obtain ⟨c0, c1, c2, f1, f2⟩ := hb2.cells
  have hr := O2.out
  obtain ⟨A2, m2, e2, hm2⟩ := hr.shape
  simp only [List.length_reverse, List.length_cons] at e2
  subst e2
  clear hb2 hB2 hk2 hr hWb
  go_wp2_with fail
  refine (take1_any W2 R M _ _ (r.reverse ++ [p]) q X2.out (by simpa using O2.out) (by simp; omega)).mono ?_
  rintro e W3 ⟨rfl, v3, x3, o3, b3, _⟩
  obtain ⟨c3, _, c3', _, f3⟩ := x3.cells
  have hlt3 := x3.blt
  have X3 := Lib.hid x3
  have O3 := Lib.hid o3
  have B3 := Lib.hid (B2.out.trans b3)
  clear x3 o3 b3 c0 c1 c2 f1 f2 B2 O2 X2
  have hWb3 : Below W3.heap.size W3 (W3.alloc (.cells #[.string (bs q.s), .bool q.pl, .int .i64 q.ne] 110)) := (Below.refl _ _).alloc (Nat.le_refl _) _
  have y0 := heap_alloc_new W3 (.cells #[.string (bs q.s), .bool q.pl, .int .i64 q.ne] 110)
  obtain ⟨W4, hW4⟩ : ∃ W, W = W3.alloc (.cells #[.string (bs q.s), .bool q.pl, .int .i64 q.ne] 110) := ⟨_, rfl⟩
  rw [← hW4] at hWb3 y0
  have H4 := Lib.hid hW4
  have hs4 : W4.heap.size = W3.heap.size + 1 := by rw [hW4]; simp
  clear hW4 c3 c3' f3
  go_wp2_with fail
  rw [← H4.out]
  refine (take1_any W4 R M _ _ r.reverse p (X3.out.below hWb3) (O3.out.below hWb3) (by simp; omega)).mono ?_
  rintro e W5 ⟨rfl, v5, x5, o5, b5, g5⟩
  have y5 := (g5.block W3.heap.size (by omega) (by omega)).trans y0
  have hlt5 := x5.blt
  have hz5 := b5.size
  have X5 := Lib.hid x5
  have O5 := Lib.hid o5
  have B5 := Lib.hid (B3.out.trans ((hWb3.mono (Nat.le_of_lt hlt3)).trans b5))
  have u0 : W5.cell? ⟨W3.heap.size, 0, none⟩ = some (.string (bs q.s)) := by rw [cell_of_row _ _ _ _ _ _ y5]; rfl
  have u2 : W5.cell? ⟨W3.heap.size, 2, none⟩ = some (.int .i64 q.ne) := by rw [cell_of_row _ _ _ _ _ _ y5]; rfl
  rw [HPL.out]
  have hW3 : W3.heap.size < W5.heap.size := by omega
  have hRn : R < W3.heap.size := hlt3
  clear y5 y0 x5 o5 b5 g5 hWb3
  clear u0 u2
  go_wp2
  go_ret
  exact ⟨rfl, B5.out.trans (((Below.refl _ _).alloc (Nat.le_refl _) _).mono (Nat.le_of_lt hlt5))⟩
set_option maxHeartbeats 3200000 in
theorem ofTwo_nobrk (w : World) (R M L d : Nat) (p q : Pt) (r : List Pt) (v : Value) (x : It) (A : Option Addr) (c : Nat) (h : WS w R M L (q :: p :: r) v d) (hL : L ≤ 256) (hl : r.length ≤ 1000) (hn : 1 + (markW x.how).length ≤ d) (hpl : p.pl = false) (hne : p.ne + 1 ≤ 32) (h2 : ¬ 1 + (markW x.how).length + 2 ≤ d)
    (HSg : ∀ W : World, WB W R M v d → Calls Tryz.prog 102 #[.pointer (some ⟨R, 0, none⟩), itX x A c] W (SgYes W R M v d x.how x.fn)) (hmon : (dyP x p q).tk = (brkP p).tk + (1 + (markW x.how).length) + q.tk) :
    Calls Tryz.prog 83 #[.pointer (some ⟨R, 0, none⟩), itX x A c] w fun e w' => e = .returned (.bool false) ∧ Below R w w' := by
  have hlt := h.box.blt
  have HS := Lib.hid h
  unfold itX itW at HSg ⊢
  have HG := Lib.hid HSg
  have hz1 : (bs (verbW x.fn (x.how != 3) ++ markW x.how)).size ≤ 6 := by rw [bs_size]; exact sgL_len x
  have hz2 := h.size hL (List.mem_cons_self ..)
  have hz3 := h.size hL (List.mem_cons_of_mem _ (List.mem_cons_self ..))
  have hq0 : (q.ne : Int) ≤ 32 ∧ (p.ne : Int) ≤ 32 := by
    have := h.ne
    rw [neK_cons, neK_cons] at this
    simp only [Bool.and_eq_true, decide_eq_true_eq] at this
    omega
  have HQ := Lib.hid hq0
  have hn1 : decide (1 + ((markW x.how).length : Int) ≤ d) = true := decide_eq_true (by omega)
  have HD := Lib.hid (And.intro hn (And.intro hne h2))
  have hn2 : decide ((2 : Int) ≤ (d : Int) - (1 + ((markW x.how).length : Int))) = false := decide_eq_false (by omega)
  have hn3 : decide ((32 : Int) < (p.ne : Int) + 1) = false := decide_eq_false (by omega)
  have HPL := Lib.hid hpl
  have hwr : wrap64 ((p.ne : Int) + 1) = (p.ne : Int) + 1 := by unfold wrap64; omega
  clear h HSg hn hmon hq0 hpl hne h2
  go_enter Tryz.func83, Tryz.ntmps83
  go_wp2_with fail
  have hWb : Below w.heap.size w (w.alloc (.cells #[.int .i64 x.how, .int .i64 x.pl, .int .u8 x.fn, .string (bs x.nm), .slice A x.ns.length c] 37)) := (Below.refl _ _).alloc (Nat.le_refl _) _
  refine (HG.out _ (HS.out.box.below hWb)).mono ?_
  rintro e W2 ⟨rfl, hb2, hB2, hk2⟩
  have O2 := Lib.hid (hk2 _ (HS.out.own.below hWb))
  have B2 := Lib.hid ((hWb.mono (Nat.le_of_lt hlt)).trans hB2)
  rw [hn1]
  have X2 := Lib.hid hb2
  obtain ⟨c0, c1, c2, f1, f2⟩ := hb2.cells
  have hr := O2.out
  obtain ⟨A2, m2, e2, hm2⟩ := hr.shape
  simp only [List.length_reverse, List.length_cons] at e2
  subst e2
  clear hb2 hB2 hk2 hr hWb
  go_wp2_with fail
  refine (take1_any W2 R M _ _ (r.reverse ++ [p]) q X2.out (by simpa using O2.out) (by simp; omega)).mono ?_
  rintro e W3 ⟨rfl, v3, x3, o3, b3, _⟩
  obtain ⟨c3, _, c3', _, f3⟩ := x3.cells
  have hlt3 := x3.blt
  have X3 := Lib.hid x3
  have O3 := Lib.hid o3
  have B3 := Lib.hid (B2.out.trans b3)
  clear x3 o3 b3 c0 c1 c2 f1 f2 B2 O2 X2
  have hWb3 : Below W3.heap.size W3 (W3.alloc (.cells #[.string (bs q.s), .bool q.pl, .int .i64 q.ne] 110)) := (Below.refl _ _).alloc (Nat.le_refl _) _
  have y0 := heap_alloc_new W3 (.cells #[.string (bs q.s), .bool q.pl, .int .i64 q.ne] 110)
  obtain ⟨W4, hW4⟩ : ∃ W, W = W3.alloc (.cells #[.string (bs q.s), .bool q.pl, .int .i64 q.ne] 110) := ⟨_, rfl⟩
  rw [← hW4] at hWb3 y0
  have H4 := Lib.hid hW4
  have hs4 : W4.heap.size = W3.heap.size + 1 := by rw [hW4]; simp
  clear hW4 c3 c3' f3
  go_wp2_with fail
  rw [← H4.out]
  refine (take1_any W4 R M _ _ r.reverse p (X3.out.below hWb3) (O3.out.below hWb3) (by simp; omega)).mono ?_
  rintro e W5 ⟨rfl, v5, x5, o5, b5, g5⟩
  have y5 := (g5.block W3.heap.size (by omega) (by omega)).trans y0
  have hlt5 := x5.blt
  have hz5 := b5.size
  have X5 := Lib.hid x5
  have O5 := Lib.hid o5
  have B5 := Lib.hid (B3.out.trans ((hWb3.mono (Nat.le_of_lt hlt3)).trans b5))
  have u0 : W5.cell? ⟨W3.heap.size, 0, none⟩ = some (.string (bs q.s)) := by rw [cell_of_row _ _ _ _ _ _ y5]; rfl
  have u2 : W5.cell? ⟨W3.heap.size, 2, none⟩ = some (.int .i64 q.ne) := by rw [cell_of_row _ _ _ _ _ _ y5]; rfl
  rw [HPL.out]
  have hW3 : W3.heap.size < W5.heap.size := by omega
  have hRn : R < W3.heap.size := hlt3
  clear y5 y0 x5 o5 b5 g5 hWb3
  go_wp2_with fail
  obtain ⟨W7, hW7⟩ : ∃ W, W = W5.alloc (.cells #[.string (⟨#[40]⟩ ++ bs p.s ++ ⟨#[41]⟩), .bool false, .int .i64 (p.ne + 1)] 110) := ⟨_, rfl⟩
  rw [← hW7]
  have y7 : W7.heap[W5.heap.size]? = some (.cells #[.string (⟨#[40]⟩ ++ bs p.s ++ ⟨#[41]⟩), .bool false, .int .i64 (p.ne + 1)] 110 (0, 0)) := by
    rw [hW7]; exact heap_alloc_new W5 _
  have k7 : ∀ k, k < W5.heap.size → W7.heap[k]? = W5.heap[k]? := fun k hk => by
    rw [hW7]; exact heap_alloc_old W5 _ hk
  have hWb7 : Below W5.heap.size W5 W7 := by rw [hW7]; exact (Below.refl _ _).alloc (Nat.le_refl _) _
  have x7 := X5.out.below hWb7
  have o7 := O5.out.below hWb7
  have hz7 := hWb7.size
  have u7 := (World.cell?_of_block (w' := W7) (a := ⟨W3.heap.size, 0, none⟩) (k7 _ hW3)).trans u0
  have u8 := (World.cell?_of_block (w' := W7) (a := ⟨W3.heap.size, 2, none⟩) (k7 _ hW3)).trans u2
  have hl7 : W5.heap.size < W7.heap.size := by
    rcases Nat.lt_or_ge W5.heap.size W7.heap.size with h | h
    · exact h
    · rw [Array.getElem?_eq_none h] at y7; cases y7
  clear hW7 u0 u2
  refine (spend_any W7 R M v5 _ 2 x7 (by have := HD.out; have := HS.out.sum; omega) (by decide)).mono ?_
  rintro e W8 ⟨rfl, hW8⟩
  rw [hn2]
  have x8 := x7.left ((d : Int) - (1 + ((markW x.how).length : Int)) - 2)
  have o8 : OV (W7.setCell ⟨R, 2, none⟩ (.int .i64 ((d : Int) - (1 + ((markW x.how).length : Int)) - 2))) (R + 1) v5 r.reverse := o7.set (by omega)
  have b8 := set_bel W7 R 2 (.int .i64 ((d : Int) - (1 + ((markW x.how).length : Int)) - 2))
  have y8 := (set_oth (w := W7) (R := R) (o := 2) (v := .int .i64 ((d : Int) - (1 + ((markW x.how).length : Int)) - 2)) (k := W5.heap.size) (by omega)).trans y7
  have k8 := set_oth (w := W7) (R := R) (o := 2) (v := .int .i64 ((d : Int) - (1 + ((markW x.how).length : Int)) - 2)) (k := W3.heap.size) (by omega)
  rw [← hW8] at x8 o8 b8 y8 k8
  have z0 : W8.cell? ⟨W5.heap.size, 0, none⟩ = some (.string (⟨#[40]⟩ ++ bs p.s ++ ⟨#[41]⟩)) := by rw [cell_of_row _ _ _ _ _ _ y8]; rfl
  have z2 : W8.cell? ⟨W5.heap.size, 2, none⟩ = some (.int .i64 (p.ne + 1)) := by rw [cell_of_row _ _ _ _ _ _ y8]; rfl
  have z3 := (World.cell?_of_block (w' := W8) (a := ⟨W3.heap.size, 0, none⟩) k8).trans u7
  have z4 := (World.cell?_of_block (w' := W8) (a := ⟨W3.heap.size, 2, none⟩) k8).trans u8
  have B8 := Lib.hid (B5.out.trans ((hWb7.mono (Nat.le_of_lt hlt5)).trans b8))
  have X8 := Lib.hid x8
  have O8 := Lib.hid o8
  clear hW8 x7 o7 y7 y8 k8 u7 u8 x8 o8 b8 hWb7 k7
  clear z0 z2 z3 z4
  go_wp2
  go_ret
  exact ⟨rfl, B8.out⟩
set_option maxHeartbeats 3200000 in
theorem ofTwo_nosign (w : World) (R M L d : Nat) (st : List Pt) (v : Value) (x : It) (A : Option Addr) (c : Nat) (h : WS w R M L st v d)
    (HSg : ∀ W : World, WB W R M v d → Calls Tryz.prog 102 #[.pointer (some ⟨R, 0, none⟩), itX x A c] W (SgNo W R)) :
    Calls Tryz.prog 83 #[.pointer (some ⟨R, 0, none⟩), itX x A c] w fun e w' => e = .returned (.bool false) ∧ Below R w w' := by
  have hlt := h.box.blt
  have HS := Lib.hid h
  unfold itX itW at HSg ⊢
  have HG := Lib.hid HSg
  clear h HSg
  go_enter Tryz.func83, Tryz.ntmps83
  go_wp2_with fail
  have hWb : Below w.heap.size w (w.alloc (.cells #[.int .i64 x.how, .int .i64 x.pl, .int .u8 x.fn, .string (bs x.nm), .slice A x.ns.length c] 37)) := (Below.refl _ _).alloc (Nat.le_refl _) _
  refine (HG.out _ (HS.out.box.below hWb)).mono ?_
  rintro e W2 ⟨rfl, hB2⟩
  have B2 := Lib.hid ((hWb.mono (Nat.le_of_lt hlt)).trans hB2)
  clear hB2 hWb
  go_wp2
  go_ret
  exact ⟨rfl, B2.out⟩
set_option maxHeartbeats 3200000 in
theorem ofTwo_nofit (w : World) (R M L d : Nat) (st : List Pt) (v : Value) (x : It) (A : Option Addr) (c : Nat) (h : WS w R M L st v d) (hn : ¬ 1 + (markW x.how).length ≤ d)
    (HSg : ∀ W : World, WB W R M v d → Calls Tryz.prog 102 #[.pointer (some ⟨R, 0, none⟩), itX x A c] W (SgYes W R M v d x.how x.fn)) :
    Calls Tryz.prog 83 #[.pointer (some ⟨R, 0, none⟩), itX x A c] w fun e w' => e = .returned (.bool false) ∧ Below R w w' := by
  have hlt := h.box.blt
  have HS := Lib.hid h
  unfold itX itW at HSg ⊢
  have HG := Lib.hid HSg
  have hn1 : decide (1 + ((markW x.how).length : Int) ≤ d) = false := decide_eq_false (by omega)
  clear h HSg hn
  go_enter Tryz.func83, Tryz.ntmps83
  go_wp2_with fail
  have hWb : Below w.heap.size w (w.alloc (.cells #[.int .i64 x.how, .int .i64 x.pl, .int .u8 x.fn, .string (bs x.nm), .slice A x.ns.length c] 37)) := (Below.refl _ _).alloc (Nat.le_refl _) _
  refine (HG.out _ (HS.out.box.below hWb)).mono ?_
  rintro e W2 ⟨rfl, hb2, hB2, hk2⟩
  have B2 := Lib.hid ((hWb.mono (Nat.le_of_lt hlt)).trans hB2)
  rw [hn1]
  clear hb2 hk2 hB2 hWb
  go_wp2
  go_ret
  exact ⟨rfl, B2.out⟩
set_option maxHeartbeats 3200000 in
theorem ofTwo_few0 (w : World) (R M L d : Nat) (v : Value) (x : It) (A : Option Addr) (c : Nat) (h : WS w R M L [] v d) (hn : 1 + (markW x.how).length ≤ d)
    (HSg : ∀ W : World, WB W R M v d → Calls Tryz.prog 102 #[.pointer (some ⟨R, 0, none⟩), itX x A c] W (SgYes W R M v d x.how x.fn)) :
    Calls Tryz.prog 83 #[.pointer (some ⟨R, 0, none⟩), itX x A c] w fun e w' => e = .returned (.bool false) ∧ Below R w w' := by
  have hlt := h.box.blt
  have HS := Lib.hid h
  unfold itX itW at HSg ⊢
  have HG := Lib.hid HSg
  have hn1 : decide (1 + ((markW x.how).length : Int) ≤ d) = true := decide_eq_true (by omega)
  clear h HSg hn
  go_enter Tryz.func83, Tryz.ntmps83
  go_wp2_with fail
  have hWb : Below w.heap.size w (w.alloc (.cells #[.int .i64 x.how, .int .i64 x.pl, .int .u8 x.fn, .string (bs x.nm), .slice A x.ns.length c] 37)) := (Below.refl _ _).alloc (Nat.le_refl _) _
  refine (HG.out _ (HS.out.box.below hWb)).mono ?_
  rintro e W2 ⟨rfl, hb2, hB2, hk2⟩
  have B2 := Lib.hid ((hWb.mono (Nat.le_of_lt hlt)).trans hB2)
  rw [hn1]
  obtain ⟨c0, c1, c2, f1, f2⟩ := hb2.cells
  obtain ⟨A2, m2, e2, hm2⟩ := (hk2 _ (HS.out.own.below hWb)).shape
  simp only [List.length_reverse, List.length_cons, List.length_nil] at e2
  subst e2
  clear hb2 hk2 hB2 hWb
  go_wp2
  go_ret
  exact ⟨rfl, B2.out⟩
set_option maxHeartbeats 3200000 in
theorem ofTwo_few1 (w : World) (R M L d : Nat) (p : Pt) (v : Value) (x : It) (A : Option Addr) (c : Nat) (h : WS w R M L [p] v d) (hn : 1 + (markW x.how).length ≤ d)
    (HSg : ∀ W : World, WB W R M v d → Calls Tryz.prog 102 #[.pointer (some ⟨R, 0, none⟩), itX x A c] W (SgYes W R M v d x.how x.fn)) :
    Calls Tryz.prog 83 #[.pointer (some ⟨R, 0, none⟩), itX x A c] w fun e w' => e = .returned (.bool false) ∧ Below R w w' := by
  have hlt := h.box.blt
  have HS := Lib.hid h
  unfold itX itW at HSg ⊢
  have HG := Lib.hid HSg
  have hn1 : decide (1 + ((markW x.how).length : Int) ≤ d) = true := decide_eq_true (by omega)
  clear h HSg hn
  go_enter Tryz.func83, Tryz.ntmps83
  go_wp2_with fail
  have hWb : Below w.heap.size w (w.alloc (.cells #[.int .i64 x.how, .int .i64 x.pl, .int .u8 x.fn, .string (bs x.nm), .slice A x.ns.length c] 37)) := (Below.refl _ _).alloc (Nat.le_refl _) _
  refine (HG.out _ (HS.out.box.below hWb)).mono ?_
  rintro e W2 ⟨rfl, hb2, hB2, hk2⟩
  have B2 := Lib.hid ((hWb.mono (Nat.le_of_lt hlt)).trans hB2)
  rw [hn1]
  obtain ⟨c0, c1, c2, f1, f2⟩ := hb2.cells
  obtain ⟨A2, m2, e2, hm2⟩ := (hk2 _ (HS.out.own.below hWb)).shape
  simp only [List.length_reverse, List.length_cons, List.length_nil] at e2
  subst e2
  clear hb2 hk2 hB2 hWb
  go_wp2
  go_ret
  exact ⟨rfl, B2.out⟩
end Go.Proofs.YtbapgdhcbfpdoaaGreatDoor
