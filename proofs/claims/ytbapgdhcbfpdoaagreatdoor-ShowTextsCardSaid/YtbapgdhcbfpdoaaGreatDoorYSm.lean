/- Layer 4, put together: ShwT, ShwJ, ShwX. -/
import Derived.Test.YtbapgdhcbfpdoaaGreatDoorYSl
import Derived.Test.YtbapgdhcbfpdoaaGreatDoorYSe
import Derived.Test.YtbapgdhcbfpdoaaGreatDoorYPg
import Derived.Test.YtbapgdhcbfpdoaaGreatDoorYSd
import Derived.Deep.RegionHeld3
/- Contract of the code's write: an item more. -/
namespace Go.Proofs.YtbapgdhcbfpdoaaGreatDoor
open Go.RowKit
set_option linter.unusedVariables false
set_option linter.unusedSectionVars false
set_option maxRecDepth 100000
def WrAns (w : World) (R M L : Nat) (a : Option (List Pt)) (e : Ending) (w' : World) : Prop := e = .returned (.bool a.isSome) ∧ Below R w w' ∧ ∀ st', a = some st' → ∃ v' d', WS w' R M L st' v' d'
theorem WrAns.no {w : World} {R M L : Nat} {e : Ending} {w' : World} (h : e = .returned (.bool false) ∧ Below R w w') {a : Option (List Pt)} (ha : a = none) : WrAns w R M L a e w' := by
  subst ha; exact ⟨h.1, h.2, fun _ h => by cases h⟩
theorem WrAns.yes {w : World} {R M L : Nat} {st : List Pt} {e : Ending} {w' : World} (h : e = .returned (.bool true) ∧ Below R w w' ∧ ∃ v' d', WS w' R M L st v' d') {a : Option (List Pt)} (ha : a = some st) : WrAns w R M L a e w' := by
  subst ha; exact ⟨h.1, h.2.1, fun _ h' => by injection h' with h'; subst h'; exact h.2.2⟩
theorem wstep_none {L : Nat} {st : List Pt} {x : It} (h : stepP st x = none) : wstep L st x = none := by unfold wstep; rw [h]; rfl
theorem wstep_fit {L : Nat} {st st' : List Pt} {x : It} (h : stepP st x = some st') (hf : fitK L st' = true) : wstep L st x = some st' := by unfold wstep; rw [h, Option.bind_some, if_pos hf]
theorem wstep_far {L : Nat} {st st' : List Pt} {x : It} (h : stepP st x = some st') (hf : ¬ fitK L st' = true) : wstep L st x = none := by unfold wstep; rw [h, Option.bind_some, if_neg hf]
theorem step_opd {st : List Pt} {x : It} (h : x.how = 1 ∨ x.how = 2) : stepP st x = if 0 < (opdP x).tk then some (opdP x :: st) else none := by unfold stepP; rw [if_pos h]
theorem step_zero {st : List Pt} {x : It} (h : x.how = 1 ∨ x.how = 2) (h0 : (opdP x).tk = 0) : stepP st x = none := by rw [step_opd h, if_neg (by omega)]
theorem step_pos {st : List Pt} {x : It} {p : Pt} (h : x.how = 1 ∨ x.how = 2) (he : opdP x = p) (h0 : 0 < p.tk) : stepP st x = some (p :: st) := by rw [step_opd h, he, if_pos h0]
theorem opd_fn {x : It} (h : x.fn ≠ 0) : (opdP x).tk = 0 := by unfold opdP; rw [if_pos h]
theorem opd1 (pl : Int) (nm : List UInt8) (ns : List Int) : opdP ⟨1, pl, 0, nm, ns⟩ = if nm ≠ [] ∨ 256 < ns.length then ⟨[], false, 0, 0⟩ else ⟨numsT ns, true, ns.length, 0⟩ := by
  unfold opdP
  rw [if_neg (fun h => h rfl), if_neg (fun h => absurd h (show ¬ (1 : Int) = 2 by decide))]
theorem opd2 (pl : Int) (nm : List UInt8) (ns : List Int) : opdP ⟨2, pl, 0, nm, ns⟩ = if 0 < ns.length ∨ nameB nm = false then ⟨[], false, 0, 0⟩ else ⟨nm, true, 1, 0⟩ := by
  unfold opdP
  rw [if_neg (fun h => h rfl), if_pos rfl]
theorem fit_cons {L d : Nat} {st : List Pt} {p : Pt} (hs : sumK st + d = L) (hn : neK st = true) (h1 : p.tk ≤ d) (h2 : p.ne ≤ 32) : fitK L (p :: st) = true :=
  fit_mk (by simp only [sumK]; omega) (by rw [neK_cons, hn, decide_eq_true h2]; rfl)
theorem far_cons {L d : Nat} {st : List Pt} {p : Pt} (hs : sumK st + d = L) (h1 : ¬ p.tk ≤ d) : ¬ fitK L (p :: st) = true := fun h => by
  have := (fit_of h).1
  simp only [sumK] at this
  omega
/-- The writer's state behind a box more. -/
theorem WS.below {w w' : World} {R M L d : Nat} {st : List Pt} {v : Value} (h : WS w R M L st v d) (hb : Below w.heap.size w w') : WS w' R M L st v d := ⟨h.box.below hb, h.own.below hb, h.sum, h.ne, h.bnd⟩
theorem WrAns.up {w W w' : World} {R M L : Nat} {a : Option (List Pt)} {e : Ending} (hb : Below w.heap.size w W) (hR : R ≤ w.heap.size) (h : WrAns W R M L a e w') : WrAns w R M L a e w' := ⟨h.1, (hb.mono hR).trans h.2.1, h.2.2⟩
theorem nameB_len {l : List UInt8} (h : nameB l = true) : l.length ≤ 16 := by
  unfold nameB at h
  simp only [Bool.and_eq_true] at h
  have h := h.1.1.1
  cases l with
  | nil => exact Nat.zero_le _
  | cons b r =>
    unfold wordB at h
    simp only [Bool.and_eq_true, decide_eq_true_eq, List.length_cons] at h ⊢
    omega
theorem step_bad {st : List Pt} {x : It} (h1 : x.how ≠ 1) (h2 : x.how ≠ 2) (h : okI x = false) : stepP st x = none := by
  unfold stepP
  rw [if_neg (by omega), if_pos h]
theorem step_mon {p : Pt} {r : List Pt} {x : It} (h1 : x.how ≠ 1) (h2 : x.how ≠ 2) (h : okI x = true) (ht : twoI x = false) : stepP (p :: r) x = some (monP x p :: r) := by
  unfold stepP
  rw [if_neg (by omega), if_neg (by rw [h]; decide), if_neg (by rw [ht]; decide)]
theorem step_mon0 {x : It} (h1 : x.how ≠ 1) (h2 : x.how ≠ 2) (h : okI x = true) (ht : twoI x = false) : stepP [] x = none := by
  unfold stepP
  rw [if_neg (by omega), if_neg (by rw [h]; decide), if_neg (by rw [ht]; decide)]
theorem step_dy {p q : Pt} {r : List Pt} {x : It} (h1 : x.how ≠ 1) (h2 : x.how ≠ 2) (h : okI x = true) (ht : twoI x = true) : stepP (q :: p :: r) x = some (dyP x p q :: r) := by
  unfold stepP
  rw [if_neg (by omega), if_neg (by rw [h]; decide), if_pos ht]
theorem step_dy0 {x : It} (h1 : x.how ≠ 1) (h2 : x.how ≠ 2) (h : okI x = true) (ht : twoI x = true) : stepP [] x = none := by
  unfold stepP
  rw [if_neg (by omega), if_neg (by rw [h]; decide), if_pos ht]
theorem step_dy1 {p : Pt} {x : It} (h1 : x.how ≠ 1) (h2 : x.how ≠ 2) (h : okI x = true) (ht : twoI x = true) : stepP [p] x = none := by
  unfold stepP
  rw [if_neg (by omega), if_neg (by rw [h]; decide), if_pos ht]
theorem okI_nm {x : It} (h : x.nm ≠ []) : okI x = false := by
  unfold okI
  rw [decide_eq_false (fun hh => h hh.2.2.2.1), Bool.false_and]
theorem okI_ns {x : It} (h : x.ns ≠ []) : okI x = false := by
  unfold okI
  rw [decide_eq_false (fun hh => h hh.2.2.1), Bool.false_and]
theorem okI_verb {x : It} (h : verbW x.fn (x.how != 3) = []) : okI x = false := by
  unfold okI
  rw [decide_eq_false (fun hh => hh.2.2.2.2 h), Bool.false_and]
theorem okI_far {x : It} (hv : verbW x.fn true ≠ []) (h3 : x.how ≠ 3) (h4 : x.how ≠ 4) (h : ¬ x.fn ≤ 17) : okI x = false := by
  unfold okI
  rw [mark_tk2 _ hv, decide_eq_false h, beq_eq_false_iff_ne.2 h3, beq_eq_false_iff_ne.2 h4]
  simp
theorem okI_yes {x : It} (hh : 3 ≤ x.how ∧ x.how ≤ 7 ∧ x.ns = [] ∧ x.nm = []) (hv : verbW x.fn (x.how != 3) ≠ []) (h : (x.how = 3 ∨ x.how = 4) ∨ tk2 x.fn = true) : okI x = true := by
  unfold okI
  rw [decide_eq_true ⟨hh.1, hh.2.1, hh.2.2.1, hh.2.2.2, hv⟩]
  rcases h with (h | h) | h
  · rw [h]; rfl
  · rw [h]; rfl
  · rw [h]; simp
theorem far_mon {L d : Nat} {p m : Pt} {r : List Pt} {k : Nat} (hs : sumK (p :: r) + d = L) (hm : m.tk = k + p.tk) (hn : ¬ k ≤ d) : ¬ fitK L (m :: r) = true := fun h => by
  have := (fit_of h).1
  simp only [sumK] at this hs
  omega
theorem fit_mon {L d : Nat} {p m : Pt} {r : List Pt} {k : Nat} (hs : sumK (p :: r) + d = L) (he : neK (p :: r) = true) (hm : m.tk = k + p.tk) (hne : m.ne = p.ne) (hn : k ≤ d) : fitK L (m :: r) = true := by
  rw [neK_cons] at he
  refine fit_mk ?_ (by rw [neK_cons, hne]; exact he)
  simp only [sumK] at hs ⊢
  omega
theorem brk_yes {p : Pt} (h : p.pl = true) : brkP p = p := by unfold brkP; rw [if_pos h]
theorem brk_no {p : Pt} (h : p.pl = false) : (brkP p).tk = p.tk + 2 ∧ (brkP p).ne = p.ne + 1 := by unfold brkP; rw [if_neg (by rw [h]; decide)]; exact ⟨rfl, rfl⟩
theorem far_dy {L d : Nat} {p q m : Pt} {r : List Pt} {k : Nat} (hs : sumK (q :: p :: r) + d = L) (hm : m.tk = (brkP p).tk + k + q.tk) (hn : ¬ k ≤ d ∨ p.pl = false ∧ ¬ k + 2 ≤ d) : ¬ fitK L (m :: r) = true := fun h => by
  have h1 := (fit_of h).1
  have h2 := brk_tk p
  simp only [sumK] at h1 hs
  rcases hn with hn | ⟨hp, hn⟩
  · omega
  · have := (brk_no hp).1
    omega
theorem nest_dy {L : Nat} {p q m : Pt} {r : List Pt} (hp : p.pl = false) (hm : m.ne = max (brkP p).ne q.ne) (hn : ¬ p.ne + 1 ≤ 32) : ¬ fitK L (m :: r) = true := fun h => by
  have h1 := (fit_of h).2
  rw [neK_cons, Bool.and_eq_true, decide_eq_true_eq, hm, (brk_no hp).2] at h1
  omega
theorem fit_dy {L d : Nat} {p q m : Pt} {r : List Pt} {k : Nat} (hs : sumK (q :: p :: r) + d = L) (he : neK (q :: p :: r) = true) (hm : m.tk = (brkP p).tk + k + q.tk) (hne : m.ne = max (brkP p).ne q.ne) (hn : p.pl = true ∧ k ≤ d ∨ p.pl = false ∧ p.ne + 1 ≤ 32 ∧ k + 2 ≤ d) : fitK L (m :: r) = true := by
  rw [neK_cons, neK_cons, Bool.and_eq_true, Bool.and_eq_true, decide_eq_true_eq, decide_eq_true_eq] at he
  simp only [sumK] at hs
  rcases hn with ⟨hp, hn⟩ | ⟨hp, h1, hn⟩
  · rw [brk_yes hp] at hm hne
    exact fit_mk (by simp only [sumK]; omega) (by rw [neK_cons, he.2.2, decide_eq_true (by omega)]; rfl)
  · have h2 := brk_no hp
    exact fit_mk (by simp only [sumK]; omega) (by rw [neK_cons, he.2.2, decide_eq_true (by omega)]; rfl)
section
variable (w : World) (R M L d : Nat) (st : List Pt) (v : Value) (pl fn : Int) (nm : List UInt8) (ns : List Int) (A : Option Addr) (c : Nat) (h : WS w R M L st v d) (hL : L ≤ 256) (hst : st.length ≤ 1000) (hla : LaidR w R) (hr : NumR w R A ns) (hb : ItB ⟨0, pl, fn, nm, ns⟩)
set_option maxHeartbeats 1600000 in
include h hL hst hla hr hb in
theorem write_1 : Calls Tryz.prog 61 #[.pointer (some ⟨R, 0, none⟩), itX ⟨1, pl, fn, nm, ns⟩ A c] w (WrAns w R M L (wstep L st ⟨1, pl, fn, nm, ns⟩)) := by
  have hR := Nat.le_of_lt h.box.blt
  by_cases h1 : nm = []
  case neg =>
    refine (w1_nm w R hR pl fn nm A _ c h1).mono fun e w' h2 => WrAns.no h2 (wstep_none (step_zero (.inl rfl) ?_))
    by_cases h2 : fn = 0
    · subst h2; rw [opd1, if_pos (Or.inl h1)]
    · exact opd_fn h2
  subst h1
  by_cases h2 : fn = 0
  case neg =>
    exact (w1_fn w R hR pl fn [] A _ c h2).mono fun e w' h3 => WrAns.no h3 (wstep_none (step_zero (.inl rfl) (opd_fn h2)))
  subst h2
  have hW : Below w.heap.size w (w.alloc (itC 1 pl 0 [] A ns.length c)) := (Below.refl _ _).alloc (Nat.le_refl _) _
  have hop : opdP ⟨1, pl, 0, [], ns⟩ = if 256 < ns.length then ⟨[], false, 0, 0⟩ else ⟨numsT ns, true, ns.length, 0⟩ := by
    rw [opd1]
    simp
  by_cases h3 : ns = []
  · subst h3
    refine (w1_ok w R hR pl 0 [] A 0 c false (fun w' => Below R w w') ((numbers_none _ R A c).mono fun e w' h4 => ⟨h4.1, by rw [h4.2]; exact hW.mono hR⟩)).mono fun e w' h5 => WrAns.no h5 (wstep_none (step_zero (.inl rfl) ?_))
    rw [hop]; rfl
  have hpos : 0 < ns.length := List.length_pos_iff.2 h3
  by_cases h4 : ns.length ≤ d
  · refine (w1_ok w R hR pl 0 [] A ns.length c true (fun w' => Below R w w' ∧ ∃ v' d', WS w' R M L (⟨numsT ns, true, ns.length, 0⟩ :: st) v' d') ((numbers_yes _ R M L d st v ns ns.length A c (h.below hW) hL hst (hla.below hW) (hr.below (hW.mono hR)) hb.ns rfl hpos h4).mono fun e w' h5 => ⟨h5.1, (hW.mono hR).trans h5.2.1, h5.2.2⟩)).mono fun e w' h5 => WrAns.yes h5 ?_
    have h6 := h.sum
    rw [if_neg (by omega)] at hop
    exact wstep_fit (step_pos (.inl rfl) hop hpos) (fit_cons h.sum h.ne h4 (Nat.zero_le _))
  · refine (w1_ok w R hR pl 0 [] A ns.length c false (fun w' => Below R w w') ((numbers_far _ R M v d ns.length A c (h.box.below hW) (by have := h.sum; omega) hpos hb.len (by omega)).mono fun e w' h5 => ⟨h5.1, (hW.mono hR).trans h5.2⟩)).mono fun e w' h5 => WrAns.no h5 ?_
    by_cases h7 : 256 < ns.length
    · rw [if_pos h7] at hop
      exact wstep_none (step_zero (.inl rfl) (by rw [hop]))
    · rw [if_neg h7] at hop
      exact wstep_far (step_pos (.inl rfl) hop hpos) (far_cons h.sum h4)
set_option maxHeartbeats 1600000 in
include h hL hst hla hr hb in
theorem write_2 : Calls Tryz.prog 61 #[.pointer (some ⟨R, 0, none⟩), itX ⟨2, pl, fn, nm, ns⟩ A c] w (WrAns w R M L (wstep L st ⟨2, pl, fn, nm, ns⟩)) := by
  have hR := Nat.le_of_lt h.box.blt
  by_cases h2 : fn = 0
  case neg =>
    have hn : stepP st ⟨2, pl, fn, nm, ns⟩ = none := step_zero (.inr rfl) (opd_fn h2)
    by_cases h1 : ns = []
    · subst h1
      exact (w2_fn w R hR pl fn nm A 0 c h2).mono fun e w' h3 => WrAns.no h3 (wstep_none hn)
    · exact (w2_ns w R hR pl fn nm A ns.length c (Nat.ne_of_gt (List.length_pos_iff.2 h1))).mono fun e w' h3 => WrAns.no h3 (wstep_none hn)
  subst h2
  by_cases h1 : ns = []
  case neg =>
    have hpos := List.length_pos_iff.2 h1
    exact (w2_ns w R hR pl 0 nm A ns.length c (Nat.ne_of_gt hpos)).mono fun e w' h3 => WrAns.no h3 (wstep_none (step_zero (.inr rfl) (by rw [opd2, if_pos (Or.inl hpos)])))
  subst h1
  have hW : Below w.heap.size w (w.alloc (itC 2 pl 0 nm A 0 c)) := (Below.refl _ _).alloc (Nat.le_refl _) _
  have hop : opdP ⟨2, pl, 0, nm, []⟩ = if nameB nm = false then ⟨[], false, 0, 0⟩ else ⟨nm, true, 1, 0⟩ := by
    rw [opd2]
    simp
  have hnl : nm.length ≤ 140737488355320 := hb.nm
  by_cases h3 : nameB nm = true
  case neg =>
    have h3 : nameB nm = false := by simpa using h3
    refine (w2_ok w R hR pl 0 nm A 0 c false (fun w' => Below R w w') ((name_bad _ R nm (Nat.le_trans hR hW.size) (hla.below hW) hnl h3).mono fun e w' h5 => ⟨h5.1, (hW.mono hR).trans h5.2⟩)).mono fun e w' h5 => WrAns.no h5 (wstep_none (step_zero (.inr rfl) (by rw [hop, if_pos h3])))
  rw [if_neg (by rw [h3]; decide)] at hop
  by_cases h4 : 1 ≤ d
  · refine (w2_ok w R hR pl 0 nm A 0 c true (fun w' => Below R w w' ∧ ∃ v' d', WS w' R M L (⟨nm, true, 1, 0⟩ :: st) v' d') ((name_yes _ R M L d st v nm (h.below hW) hL hst (hla.below hW) (by have := nameB_len h3; omega) h3 h4).mono fun e w' h5 => ⟨h5.1, (hW.mono hR).trans h5.2.1, h5.2.2⟩)).mono fun e w' h5 => WrAns.yes h5 ?_
    exact wstep_fit (step_pos (.inr rfl) hop Nat.one_pos) (fit_cons h.sum h.ne h4 (Nat.zero_le _))
  · refine (w2_ok w R hR pl 0 nm A 0 c false (fun w' => Below R w w') ((name_far _ R M v d nm (h.box.below hW) (by have := h.sum; omega) (hla.below hW) hnl h3 h4).mono fun e w' h5 => ⟨h5.1, (hW.mono hR).trans h5.2⟩)).mono fun e w' h5 => WrAns.no h5 ?_
    exact wstep_far (step_pos (.inr rfl) hop Nat.one_pos) (far_cons h.sum h4)
set_option maxHeartbeats 1600000 in
include h hL hst hla hr hb in
theorem write_3 : Calls Tryz.prog 61 #[.pointer (some ⟨R, 0, none⟩), itX ⟨3, pl, fn, nm, ns⟩ A c] w (WrAns w R M L (wstep L st ⟨3, pl, fn, nm, ns⟩)) := by
  have hR := Nat.le_of_lt h.box.blt
  have k1 : (3 : Int) ≠ 1 := by decide
  have k2 : (3 : Int) ≠ 2 := by decide
  have k6 : (3 : Int) = 3 ∨ (3 : Int) = 4 := by decide
  have k5 : 3 ≤ (3 : Int) ∧ (3 : Int) ≤ 7 ∧ ([] : List Int) = [] ∧ ([] : List UInt8) = [] := ⟨by decide, by decide, rfl, rfl⟩
  by_cases h1 : nm = []
  case neg => exact (w3_nm w R hR pl fn nm A _ c h1).mono fun e w' h2 => WrAns.no h2 (wstep_none (step_bad k1 k2 (okI_nm h1)))
  subst h1
  by_cases h2 : ns = []
  case neg => exact (w3_ns w R hR pl fn [] A ns.length c (Nat.ne_of_gt (List.length_pos_iff.2 h2))).mono fun e w' h3 => WrAns.no h3 (wstep_none (step_bad k1 k2 (okI_ns h2)))
  subst h2
  have hW : Below w.heap.size w (w.alloc (itC 3 pl fn [] A 0 c)) := (Below.refl _ _).alloc (Nat.le_refl _) _
  have H := h.below hW
  have hd : (0 : Int) ≤ (d : Int) ∧ (d : Int) ≤ 1000000 := by have := h.sum; omega
  have fin := fun (D : Bool) (P : World → Prop) hC => w3_ok w R hR pl fn [] A 0 c D P hC
  by_cases hv : verbW fn false = []
  · exact (fin false (fun w' => Below R w w') ((ofOne_nosign _ R M L d st v ⟨3, pl, fn, [], []⟩ A c H fun W hW => sign_3no W R M v d hW hd pl fn [] A 0 c hv).mono fun e w' h5 => ⟨h5.1, (hW.mono hR).trans h5.2⟩)).mono fun e w' h5 => WrAns.no h5 (wstep_none (step_bad k1 k2 (okI_verb hv)))
  have hok : okI (⟨3, pl, fn, [], []⟩ : It) = true := okI_yes k5 hv (.inl k6)
  have htwo : twoI (⟨3, pl, fn, [], []⟩ : It) = false := rfl
  by_cases hn : 1 + (markW 3).length ≤ d
  case neg =>
    refine (fin false (fun w' => Below R w w') ((ofOne_nofit _ R M L d st v ⟨3, pl, fn, [], []⟩ A c H hn (fun W hW => sign_3yes W R M v d hW hd pl fn [] A 0 c hv)).mono fun e w' h5 => ⟨h5.1, (hW.mono hR).trans h5.2⟩)).mono fun e w' h5 => WrAns.no h5 (?_)
    cases st with
    | nil => exact wstep_none (step_mon0 k1 k2 hok htwo)
    | cons p r => exact wstep_far (step_mon k1 k2 hok htwo) (far_mon h.sum (m := monP ⟨3, pl, fn, [], []⟩ p) (by show 1 + p.tk = 1 + (markW 3).length + p.tk; rfl) hn)
  cases st with
  | nil => exact (fin false (fun w' => Below R w w') ((ofOne_few0 _ R M L d v ⟨3, pl, fn, [], []⟩ A c H hn (fun W hW => sign_3yes W R M v d hW hd pl fn [] A 0 c hv)).mono fun e w' h5 => ⟨h5.1, (hW.mono hR).trans h5.2⟩)).mono fun e w' h5 => WrAns.no h5 (wstep_none (step_mon0 k1 k2 hok htwo))
  | cons p r =>
    refine (fin true (fun w' => Below R w w' ∧ ∃ v' d', WS w' R M L (monP ⟨3, pl, fn, [], []⟩ p :: r) v' d') ((ofOne_yes _ R M L d p r v ⟨3, pl, fn, [], []⟩ A c H hL (by simp only [List.length_cons] at hst; omega) hn (fun W hW => sign_3yes W R M v d hW hd pl fn [] A 0 c hv) (by show 1 + p.tk = 1 + (markW 3).length + p.tk; rfl)).mono fun e w' h5 => ⟨h5.1, (hW.mono hR).trans h5.2.1, h5.2.2⟩)).mono fun e w' h5 => WrAns.yes h5 (?_)
    exact wstep_fit (step_mon k1 k2 hok htwo) (fit_mon h.sum h.ne (m := monP ⟨3, pl, fn, [], []⟩ p) (by show 1 + p.tk = 1 + (markW 3).length + p.tk; rfl) rfl hn)
set_option maxHeartbeats 1600000 in
include h hL hst hla hr hb in
theorem write_5 : Calls Tryz.prog 61 #[.pointer (some ⟨R, 0, none⟩), itX ⟨5, pl, fn, nm, ns⟩ A c] w (WrAns w R M L (wstep L st ⟨5, pl, fn, nm, ns⟩)) := by
  have hR := Nat.le_of_lt h.box.blt
  have k1 : (5 : Int) ≠ 1 := by decide
  have k2 : (5 : Int) ≠ 2 := by decide
  have k3 : (5 : Int) ≠ 3 := by decide
  have k4 : (5 : Int) ≠ 4 := by decide
  have k5 : 3 ≤ (5 : Int) ∧ (5 : Int) ≤ 7 ∧ ([] : List Int) = [] ∧ ([] : List UInt8) = [] := ⟨by decide, by decide, rfl, rfl⟩
  by_cases h1 : nm = []
  case neg => exact (w5_nm w R hR pl fn nm A _ c h1).mono fun e w' h2 => WrAns.no h2 (wstep_none (step_bad k1 k2 (okI_nm h1)))
  subst h1
  by_cases h2 : ns = []
  case neg => exact (w5_ns w R hR pl fn [] A ns.length c (Nat.ne_of_gt (List.length_pos_iff.2 h2))).mono fun e w' h3 => WrAns.no h3 (wstep_none (step_bad k1 k2 (okI_ns h2)))
  subst h2
  have hW : Below w.heap.size w (w.alloc (itC 5 pl fn [] A 0 c)) := (Below.refl _ _).alloc (Nat.le_refl _) _
  have H := h.below hW
  have hd : (0 : Int) ≤ (d : Int) ∧ (d : Int) ≤ 1000000 := by have := h.sum; omega
  have fin := fun (D : Bool) (P : World → Prop) hC => w5_ok w R hR pl fn [] A 0 c D P hC
  by_cases hv : verbW fn true = []
  · exact (fin false (fun w' => Below R w w') ((ofOne_nosign _ R M L d st v ⟨5, pl, fn, [], []⟩ A c H fun W hW => sign_5no W R M v d hW hd pl fn [] A 0 c hv).mono fun e w' h5 => ⟨h5.1, (hW.mono hR).trans h5.2⟩)).mono fun e w' h5 => WrAns.no h5 (wstep_none (step_bad k1 k2 (okI_verb hv)))
  by_cases hf : fn ≤ 17
  case neg => exact (fin false (fun w' => Below R w w') ((ofOne_nosign _ R M L d st v ⟨5, pl, fn, [], []⟩ A c H fun W hW => sign_5far W R M v d hW hd pl fn [] A 0 c hv hf).mono fun e w' h5 => ⟨h5.1, (hW.mono hR).trans h5.2⟩)).mono fun e w' h5 => WrAns.no h5 (wstep_none (step_bad k1 k2 (okI_far hv k3 k4 hf)))
  have hok : okI (⟨5, pl, fn, [], []⟩ : It) = true := okI_yes k5 hv (.inr (by rw [mark_tk2 fn hv]; exact decide_eq_true hf))
  have htwo : twoI (⟨5, pl, fn, [], []⟩ : It) = false := rfl
  by_cases hn : 1 + (markW 5).length ≤ d
  case neg =>
    refine (fin false (fun w' => Below R w w') ((ofOne_nofit _ R M L d st v ⟨5, pl, fn, [], []⟩ A c H hn (fun W hW => sign_5yes W R M v d hW hd pl fn [] A 0 c hv hf)).mono fun e w' h5 => ⟨h5.1, (hW.mono hR).trans h5.2⟩)).mono fun e w' h5 => WrAns.no h5 (?_)
    cases st with
    | nil => exact wstep_none (step_mon0 k1 k2 hok htwo)
    | cons p r => exact wstep_far (step_mon k1 k2 hok htwo) (far_mon h.sum (m := monP ⟨5, pl, fn, [], []⟩ p) (by show 2 + p.tk = 1 + (markW 5).length + p.tk; rfl) hn)
  cases st with
  | nil => exact (fin false (fun w' => Below R w w') ((ofOne_few0 _ R M L d v ⟨5, pl, fn, [], []⟩ A c H hn (fun W hW => sign_5yes W R M v d hW hd pl fn [] A 0 c hv hf)).mono fun e w' h5 => ⟨h5.1, (hW.mono hR).trans h5.2⟩)).mono fun e w' h5 => WrAns.no h5 (wstep_none (step_mon0 k1 k2 hok htwo))
  | cons p r =>
    refine (fin true (fun w' => Below R w w' ∧ ∃ v' d', WS w' R M L (monP ⟨5, pl, fn, [], []⟩ p :: r) v' d') ((ofOne_yes _ R M L d p r v ⟨5, pl, fn, [], []⟩ A c H hL (by simp only [List.length_cons] at hst; omega) hn (fun W hW => sign_5yes W R M v d hW hd pl fn [] A 0 c hv hf) (by show 2 + p.tk = 1 + (markW 5).length + p.tk; rfl)).mono fun e w' h5 => ⟨h5.1, (hW.mono hR).trans h5.2.1, h5.2.2⟩)).mono fun e w' h5 => WrAns.yes h5 (?_)
    exact wstep_fit (step_mon k1 k2 hok htwo) (fit_mon h.sum h.ne (m := monP ⟨5, pl, fn, [], []⟩ p) (by show 2 + p.tk = 1 + (markW 5).length + p.tk; rfl) rfl hn)
set_option maxHeartbeats 1600000 in
include h hL hst hla hr hb in
theorem write_6 : Calls Tryz.prog 61 #[.pointer (some ⟨R, 0, none⟩), itX ⟨6, pl, fn, nm, ns⟩ A c] w (WrAns w R M L (wstep L st ⟨6, pl, fn, nm, ns⟩)) := by
  have hR := Nat.le_of_lt h.box.blt
  have k1 : (6 : Int) ≠ 1 := by decide
  have k2 : (6 : Int) ≠ 2 := by decide
  have k3 : (6 : Int) ≠ 3 := by decide
  have k4 : (6 : Int) ≠ 4 := by decide
  have k5 : 3 ≤ (6 : Int) ∧ (6 : Int) ≤ 7 ∧ ([] : List Int) = [] ∧ ([] : List UInt8) = [] := ⟨by decide, by decide, rfl, rfl⟩
  by_cases h1 : nm = []
  case neg => exact (w6_nm w R hR pl fn nm A _ c h1).mono fun e w' h2 => WrAns.no h2 (wstep_none (step_bad k1 k2 (okI_nm h1)))
  subst h1
  by_cases h2 : ns = []
  case neg => exact (w6_ns w R hR pl fn [] A ns.length c (Nat.ne_of_gt (List.length_pos_iff.2 h2))).mono fun e w' h3 => WrAns.no h3 (wstep_none (step_bad k1 k2 (okI_ns h2)))
  subst h2
  have hW : Below w.heap.size w (w.alloc (itC 6 pl fn [] A 0 c)) := (Below.refl _ _).alloc (Nat.le_refl _) _
  have H := h.below hW
  have hd : (0 : Int) ≤ (d : Int) ∧ (d : Int) ≤ 1000000 := by have := h.sum; omega
  have fin := fun (D : Bool) (P : World → Prop) hC => w6_ok w R hR pl fn [] A 0 c D P hC
  by_cases hv : verbW fn true = []
  · exact (fin false (fun w' => Below R w w') ((ofOne_nosign _ R M L d st v ⟨6, pl, fn, [], []⟩ A c H fun W hW => sign_6no W R M v d hW hd pl fn [] A 0 c hv).mono fun e w' h5 => ⟨h5.1, (hW.mono hR).trans h5.2⟩)).mono fun e w' h5 => WrAns.no h5 (wstep_none (step_bad k1 k2 (okI_verb hv)))
  by_cases hf : fn ≤ 17
  case neg => exact (fin false (fun w' => Below R w w') ((ofOne_nosign _ R M L d st v ⟨6, pl, fn, [], []⟩ A c H fun W hW => sign_6far W R M v d hW hd pl fn [] A 0 c hv hf).mono fun e w' h5 => ⟨h5.1, (hW.mono hR).trans h5.2⟩)).mono fun e w' h5 => WrAns.no h5 (wstep_none (step_bad k1 k2 (okI_far hv k3 k4 hf)))
  have hok : okI (⟨6, pl, fn, [], []⟩ : It) = true := okI_yes k5 hv (.inr (by rw [mark_tk2 fn hv]; exact decide_eq_true hf))
  have htwo : twoI (⟨6, pl, fn, [], []⟩ : It) = false := rfl
  by_cases hn : 1 + (markW 6).length ≤ d
  case neg =>
    refine (fin false (fun w' => Below R w w') ((ofOne_nofit _ R M L d st v ⟨6, pl, fn, [], []⟩ A c H hn (fun W hW => sign_6yes W R M v d hW hd pl fn [] A 0 c hv hf)).mono fun e w' h5 => ⟨h5.1, (hW.mono hR).trans h5.2⟩)).mono fun e w' h5 => WrAns.no h5 (?_)
    cases st with
    | nil => exact wstep_none (step_mon0 k1 k2 hok htwo)
    | cons p r => exact wstep_far (step_mon k1 k2 hok htwo) (far_mon h.sum (m := monP ⟨6, pl, fn, [], []⟩ p) (by show 2 + p.tk = 1 + (markW 6).length + p.tk; rfl) hn)
  cases st with
  | nil => exact (fin false (fun w' => Below R w w') ((ofOne_few0 _ R M L d v ⟨6, pl, fn, [], []⟩ A c H hn (fun W hW => sign_6yes W R M v d hW hd pl fn [] A 0 c hv hf)).mono fun e w' h5 => ⟨h5.1, (hW.mono hR).trans h5.2⟩)).mono fun e w' h5 => WrAns.no h5 (wstep_none (step_mon0 k1 k2 hok htwo))
  | cons p r =>
    refine (fin true (fun w' => Below R w w' ∧ ∃ v' d', WS w' R M L (monP ⟨6, pl, fn, [], []⟩ p :: r) v' d') ((ofOne_yes _ R M L d p r v ⟨6, pl, fn, [], []⟩ A c H hL (by simp only [List.length_cons] at hst; omega) hn (fun W hW => sign_6yes W R M v d hW hd pl fn [] A 0 c hv hf) (by show 2 + p.tk = 1 + (markW 6).length + p.tk; rfl)).mono fun e w' h5 => ⟨h5.1, (hW.mono hR).trans h5.2.1, h5.2.2⟩)).mono fun e w' h5 => WrAns.yes h5 (?_)
    exact wstep_fit (step_mon k1 k2 hok htwo) (fit_mon h.sum h.ne (m := monP ⟨6, pl, fn, [], []⟩ p) (by show 2 + p.tk = 1 + (markW 6).length + p.tk; rfl) rfl hn)
set_option maxHeartbeats 1600000 in
include h hL hst hla hr hb in
theorem write_4 : Calls Tryz.prog 61 #[.pointer (some ⟨R, 0, none⟩), itX ⟨4, pl, fn, nm, ns⟩ A c] w (WrAns w R M L (wstep L st ⟨4, pl, fn, nm, ns⟩)) := by
  have hR := Nat.le_of_lt h.box.blt
  have k1 : (4 : Int) ≠ 1 := by decide
  have k2 : (4 : Int) ≠ 2 := by decide
  have k6 : (4 : Int) = 3 ∨ (4 : Int) = 4 := by decide
  have k5 : 3 ≤ (4 : Int) ∧ (4 : Int) ≤ 7 ∧ ([] : List Int) = [] ∧ ([] : List UInt8) = [] := ⟨by decide, by decide, rfl, rfl⟩
  by_cases h1 : nm = []
  case neg => exact (w4_nm w R hR pl fn nm A _ c h1).mono fun e w' h2 => WrAns.no h2 (wstep_none (step_bad k1 k2 (okI_nm h1)))
  subst h1
  by_cases h2 : ns = []
  case neg => exact (w4_ns w R hR pl fn [] A ns.length c (Nat.ne_of_gt (List.length_pos_iff.2 h2))).mono fun e w' h3 => WrAns.no h3 (wstep_none (step_bad k1 k2 (okI_ns h2)))
  subst h2
  have hW : Below w.heap.size w (w.alloc (itC 4 pl fn [] A 0 c)) := (Below.refl _ _).alloc (Nat.le_refl _) _
  have H := h.below hW
  have hd : (0 : Int) ≤ (d : Int) ∧ (d : Int) ≤ 1000000 := by have := h.sum; omega
  have fin := fun (D : Bool) (P : World → Prop) hC => w4_ok w R hR pl fn [] A 0 c D P hC
  by_cases hv : verbW fn true = []
  · exact (fin false (fun w' => Below R w w') ((ofTwo_nosign _ R M L d st v ⟨4, pl, fn, [], []⟩ A c H fun W hW => sign_4no W R M v d hW hd pl fn [] A 0 c hv).mono fun e w' h5 => ⟨h5.1, (hW.mono hR).trans h5.2⟩)).mono fun e w' h5 => WrAns.no h5 (wstep_none (step_bad k1 k2 (okI_verb hv)))
  have hok : okI (⟨4, pl, fn, [], []⟩ : It) = true := okI_yes k5 hv (.inl k6)
  have htwo : twoI (⟨4, pl, fn, [], []⟩ : It) = true := rfl
  by_cases hn : 1 + (markW 4).length ≤ d
  case neg =>
    refine (fin false (fun w' => Below R w w') ((ofTwo_nofit _ R M L d st v ⟨4, pl, fn, [], []⟩ A c H hn (fun W hW => sign_4yes W R M v d hW hd pl fn [] A 0 c hv)).mono fun e w' h5 => ⟨h5.1, (hW.mono hR).trans h5.2⟩)).mono fun e w' h5 => WrAns.no h5 (?_)
    match st with
    | [] => exact wstep_none (step_dy0 k1 k2 hok htwo)
    | [p] => exact wstep_none (step_dy1 k1 k2 hok htwo)
    | q :: p :: r => exact wstep_far (step_dy k1 k2 hok htwo) (far_dy h.sum (by show (brkP p).tk + 1 + q.tk = (brkP p).tk + (1 + (markW 4).length) + q.tk; rfl) (.inl hn))
  match st, h, H, hst with
  | [], h, H, hst => exact (fin false (fun w' => Below R w w') ((ofTwo_few0 _ R M L d v ⟨4, pl, fn, [], []⟩ A c H hn (fun W hW => sign_4yes W R M v d hW hd pl fn [] A 0 c hv)).mono fun e w' h5 => ⟨h5.1, (hW.mono hR).trans h5.2⟩)).mono fun e w' h5 => WrAns.no h5 (wstep_none (step_dy0 k1 k2 hok htwo))
  | [p], h, H, hst => exact (fin false (fun w' => Below R w w') ((ofTwo_few1 _ R M L d p v ⟨4, pl, fn, [], []⟩ A c H hn (fun W hW => sign_4yes W R M v d hW hd pl fn [] A 0 c hv)).mono fun e w' h5 => ⟨h5.1, (hW.mono hR).trans h5.2⟩)).mono fun e w' h5 => WrAns.no h5 (wstep_none (step_dy1 k1 k2 hok htwo))
  | q :: p :: r, h, H, hst =>
    have hl : r.length ≤ 1000 := by simp only [List.length_cons] at hst; omega
    by_cases hpl : p.pl = true
    · refine (fin true (fun w' => Below R w w' ∧ ∃ v' d', WS w' R M L (dyP ⟨4, pl, fn, [], []⟩ p q :: r) v' d') ((ofTwo_bare _ R M L d p q r v ⟨4, pl, fn, [], []⟩ A c H hL hl hn hpl (fun W hW => sign_4yes W R M v d hW hd pl fn [] A 0 c hv) (by show (brkP p).tk + 1 + q.tk = (brkP p).tk + (1 + (markW 4).length) + q.tk; rfl)).mono fun e w' h5 => ⟨h5.1, (hW.mono hR).trans h5.2.1, h5.2.2⟩)).mono fun e w' h5 => WrAns.yes h5 (?_)
      exact wstep_fit (step_dy k1 k2 hok htwo) (fit_dy h.sum h.ne (by show (brkP p).tk + 1 + q.tk = (brkP p).tk + (1 + (markW 4).length) + q.tk; rfl) rfl (.inl ⟨hpl, hn⟩))
    have hpl : p.pl = false := by simpa using hpl
    by_cases hne : p.ne + 1 ≤ 32
    case neg =>
      refine (fin false (fun w' => Below R w w') ((ofTwo_nest _ R M L d p q r v ⟨4, pl, fn, [], []⟩ A c H hL hl hn hpl hne (fun W hW => sign_4yes W R M v d hW hd pl fn [] A 0 c hv) (by show (brkP p).tk + 1 + q.tk = (brkP p).tk + (1 + (markW 4).length) + q.tk; rfl)).mono fun e w' h5 => ⟨h5.1, (hW.mono hR).trans h5.2⟩)).mono fun e w' h5 => WrAns.no h5 (?_)
      exact wstep_far (step_dy k1 k2 hok htwo) (nest_dy hpl rfl hne)
    by_cases h2 : 1 + (markW 4).length + 2 ≤ d
    · refine (fin true (fun w' => Below R w w' ∧ ∃ v' d', WS w' R M L (dyP ⟨4, pl, fn, [], []⟩ p q :: r) v' d') ((ofTwo_brk _ R M L d p q r v ⟨4, pl, fn, [], []⟩ A c H hL hl hn hpl hne h2 (fun W hW => sign_4yes W R M v d hW hd pl fn [] A 0 c hv) (by show (brkP p).tk + 1 + q.tk = (brkP p).tk + (1 + (markW 4).length) + q.tk; rfl)).mono fun e w' h5 => ⟨h5.1, (hW.mono hR).trans h5.2.1, h5.2.2⟩)).mono fun e w' h5 => WrAns.yes h5 (?_)
      exact wstep_fit (step_dy k1 k2 hok htwo) (fit_dy h.sum h.ne (by show (brkP p).tk + 1 + q.tk = (brkP p).tk + (1 + (markW 4).length) + q.tk; rfl) rfl (.inr ⟨hpl, hne, h2⟩))
    · refine (fin false (fun w' => Below R w w') ((ofTwo_nobrk _ R M L d p q r v ⟨4, pl, fn, [], []⟩ A c H hL hl hn hpl hne h2 (fun W hW => sign_4yes W R M v d hW hd pl fn [] A 0 c hv) (by show (brkP p).tk + 1 + q.tk = (brkP p).tk + (1 + (markW 4).length) + q.tk; rfl)).mono fun e w' h5 => ⟨h5.1, (hW.mono hR).trans h5.2⟩)).mono fun e w' h5 => WrAns.no h5 (?_)
      exact wstep_far (step_dy k1 k2 hok htwo) (far_dy h.sum (by show (brkP p).tk + 1 + q.tk = (brkP p).tk + (1 + (markW 4).length) + q.tk; rfl) (.inr ⟨hpl, h2⟩))
set_option maxHeartbeats 1600000 in
include h hL hst hla hr hb in
theorem write_7 : Calls Tryz.prog 61 #[.pointer (some ⟨R, 0, none⟩), itX ⟨7, pl, fn, nm, ns⟩ A c] w (WrAns w R M L (wstep L st ⟨7, pl, fn, nm, ns⟩)) := by
  have hR := Nat.le_of_lt h.box.blt
  have k1 : (7 : Int) ≠ 1 := by decide
  have k2 : (7 : Int) ≠ 2 := by decide
  have k3 : (7 : Int) ≠ 3 := by decide
  have k4 : (7 : Int) ≠ 4 := by decide
  have k5 : 3 ≤ (7 : Int) ∧ (7 : Int) ≤ 7 ∧ ([] : List Int) = [] ∧ ([] : List UInt8) = [] := ⟨by decide, by decide, rfl, rfl⟩
  by_cases h1 : nm = []
  case neg => exact (w7_nm w R hR pl fn nm A _ c h1).mono fun e w' h2 => WrAns.no h2 (wstep_none (step_bad k1 k2 (okI_nm h1)))
  subst h1
  by_cases h2 : ns = []
  case neg => exact (w7_ns w R hR pl fn [] A ns.length c (Nat.ne_of_gt (List.length_pos_iff.2 h2))).mono fun e w' h3 => WrAns.no h3 (wstep_none (step_bad k1 k2 (okI_ns h2)))
  subst h2
  have hW : Below w.heap.size w (w.alloc (itC 7 pl fn [] A 0 c)) := (Below.refl _ _).alloc (Nat.le_refl _) _
  have H := h.below hW
  have hd : (0 : Int) ≤ (d : Int) ∧ (d : Int) ≤ 1000000 := by have := h.sum; omega
  have fin := fun (D : Bool) (P : World → Prop) hC => w7_ok w R hR pl fn [] A 0 c D P hC
  by_cases hv : verbW fn true = []
  · exact (fin false (fun w' => Below R w w') ((ofTwo_nosign _ R M L d st v ⟨7, pl, fn, [], []⟩ A c H fun W hW => sign_7no W R M v d hW hd pl fn [] A 0 c hv).mono fun e w' h5 => ⟨h5.1, (hW.mono hR).trans h5.2⟩)).mono fun e w' h5 => WrAns.no h5 (wstep_none (step_bad k1 k2 (okI_verb hv)))
  by_cases hf : fn ≤ 17
  case neg => exact (fin false (fun w' => Below R w w') ((ofTwo_nosign _ R M L d st v ⟨7, pl, fn, [], []⟩ A c H fun W hW => sign_7far W R M v d hW hd pl fn [] A 0 c hv hf).mono fun e w' h5 => ⟨h5.1, (hW.mono hR).trans h5.2⟩)).mono fun e w' h5 => WrAns.no h5 (wstep_none (step_bad k1 k2 (okI_far hv k3 k4 hf)))
  have hok : okI (⟨7, pl, fn, [], []⟩ : It) = true := okI_yes k5 hv (.inr (by rw [mark_tk2 fn hv]; exact decide_eq_true hf))
  have htwo : twoI (⟨7, pl, fn, [], []⟩ : It) = true := rfl
  by_cases hn : 1 + (markW 7).length ≤ d
  case neg =>
    refine (fin false (fun w' => Below R w w') ((ofTwo_nofit _ R M L d st v ⟨7, pl, fn, [], []⟩ A c H hn (fun W hW => sign_7yes W R M v d hW hd pl fn [] A 0 c hv hf)).mono fun e w' h5 => ⟨h5.1, (hW.mono hR).trans h5.2⟩)).mono fun e w' h5 => WrAns.no h5 (?_)
    match st with
    | [] => exact wstep_none (step_dy0 k1 k2 hok htwo)
    | [p] => exact wstep_none (step_dy1 k1 k2 hok htwo)
    | q :: p :: r => exact wstep_far (step_dy k1 k2 hok htwo) (far_dy h.sum (by show (brkP p).tk + 2 + q.tk = (brkP p).tk + (1 + (markW 7).length) + q.tk; rfl) (.inl hn))
  match st, h, H, hst with
  | [], h, H, hst => exact (fin false (fun w' => Below R w w') ((ofTwo_few0 _ R M L d v ⟨7, pl, fn, [], []⟩ A c H hn (fun W hW => sign_7yes W R M v d hW hd pl fn [] A 0 c hv hf)).mono fun e w' h5 => ⟨h5.1, (hW.mono hR).trans h5.2⟩)).mono fun e w' h5 => WrAns.no h5 (wstep_none (step_dy0 k1 k2 hok htwo))
  | [p], h, H, hst => exact (fin false (fun w' => Below R w w') ((ofTwo_few1 _ R M L d p v ⟨7, pl, fn, [], []⟩ A c H hn (fun W hW => sign_7yes W R M v d hW hd pl fn [] A 0 c hv hf)).mono fun e w' h5 => ⟨h5.1, (hW.mono hR).trans h5.2⟩)).mono fun e w' h5 => WrAns.no h5 (wstep_none (step_dy1 k1 k2 hok htwo))
  | q :: p :: r, h, H, hst =>
    have hl : r.length ≤ 1000 := by simp only [List.length_cons] at hst; omega
    by_cases hpl : p.pl = true
    · refine (fin true (fun w' => Below R w w' ∧ ∃ v' d', WS w' R M L (dyP ⟨7, pl, fn, [], []⟩ p q :: r) v' d') ((ofTwo_bare _ R M L d p q r v ⟨7, pl, fn, [], []⟩ A c H hL hl hn hpl (fun W hW => sign_7yes W R M v d hW hd pl fn [] A 0 c hv hf) (by show (brkP p).tk + 2 + q.tk = (brkP p).tk + (1 + (markW 7).length) + q.tk; rfl)).mono fun e w' h5 => ⟨h5.1, (hW.mono hR).trans h5.2.1, h5.2.2⟩)).mono fun e w' h5 => WrAns.yes h5 (?_)
      exact wstep_fit (step_dy k1 k2 hok htwo) (fit_dy h.sum h.ne (by show (brkP p).tk + 2 + q.tk = (brkP p).tk + (1 + (markW 7).length) + q.tk; rfl) rfl (.inl ⟨hpl, hn⟩))
    have hpl : p.pl = false := by simpa using hpl
    by_cases hne : p.ne + 1 ≤ 32
    case neg =>
      refine (fin false (fun w' => Below R w w') ((ofTwo_nest _ R M L d p q r v ⟨7, pl, fn, [], []⟩ A c H hL hl hn hpl hne (fun W hW => sign_7yes W R M v d hW hd pl fn [] A 0 c hv hf) (by show (brkP p).tk + 2 + q.tk = (brkP p).tk + (1 + (markW 7).length) + q.tk; rfl)).mono fun e w' h5 => ⟨h5.1, (hW.mono hR).trans h5.2⟩)).mono fun e w' h5 => WrAns.no h5 (?_)
      exact wstep_far (step_dy k1 k2 hok htwo) (nest_dy hpl rfl hne)
    by_cases h2 : 1 + (markW 7).length + 2 ≤ d
    · refine (fin true (fun w' => Below R w w' ∧ ∃ v' d', WS w' R M L (dyP ⟨7, pl, fn, [], []⟩ p q :: r) v' d') ((ofTwo_brk _ R M L d p q r v ⟨7, pl, fn, [], []⟩ A c H hL hl hn hpl hne h2 (fun W hW => sign_7yes W R M v d hW hd pl fn [] A 0 c hv hf) (by show (brkP p).tk + 2 + q.tk = (brkP p).tk + (1 + (markW 7).length) + q.tk; rfl)).mono fun e w' h5 => ⟨h5.1, (hW.mono hR).trans h5.2.1, h5.2.2⟩)).mono fun e w' h5 => WrAns.yes h5 (?_)
      exact wstep_fit (step_dy k1 k2 hok htwo) (fit_dy h.sum h.ne (by show (brkP p).tk + 2 + q.tk = (brkP p).tk + (1 + (markW 7).length) + q.tk; rfl) rfl (.inr ⟨hpl, hne, h2⟩))
    · refine (fin false (fun w' => Below R w w') ((ofTwo_nobrk _ R M L d p q r v ⟨7, pl, fn, [], []⟩ A c H hL hl hn hpl hne h2 (fun W hW => sign_7yes W R M v d hW hd pl fn [] A 0 c hv hf) (by show (brkP p).tk + 2 + q.tk = (brkP p).tk + (1 + (markW 7).length) + q.tk; rfl)).mono fun e w' h5 => ⟨h5.1, (hW.mono hR).trans h5.2⟩)).mono fun e w' h5 => WrAns.no h5 (?_)
      exact wstep_far (step_dy k1 k2 hok htwo) (far_dy h.sum (by show (brkP p).tk + 2 + q.tk = (brkP p).tk + (1 + (markW 7).length) + q.tk; rfl) (.inr ⟨hpl, h2⟩))
end
set_option maxHeartbeats 1600000 in
theorem write_any (w : World) (R M L d : Nat) (st : List Pt) (v : Value) (x : It) (A : Option Addr) (c : Nat) (h : WS w R M L st v d) (hL : L ≤ 256) (hst : st.length ≤ 1000) (hla : LaidR w R) (hr : NumR w R A x.ns) (hb : ItB x) :
    Calls Tryz.prog 61 #[.pointer (some ⟨R, 0, none⟩), itX x A c] w (WrAns w R M L (wstep L st x)) := by
  obtain ⟨how, pl, fn, nm, ns⟩ := x
  have hb' : ItB ⟨0, pl, fn, nm, ns⟩ := ⟨⟨(by decide : (-9223372036854775808 : Int) ≤ 0), (by decide : (0 : Int) ≤ 9223372036854775807)⟩, hb.fn, hb.nm, hb.ns, hb.len⟩
  by_cases h1 : how = 1
  · subst h1; exact write_1 w R M L d st v pl fn nm ns A c h hL hst hla hr hb'
  by_cases h2 : how = 2
  · subst h2; exact write_2 w R M L d st v pl fn nm ns A c h hL hst hla hr hb'
  by_cases h3 : how = 3
  · subst h3; exact write_3 w R M L d st v pl fn nm ns A c h hL hst hla hr hb'
  by_cases h4 : how = 4
  · subst h4; exact write_4 w R M L d st v pl fn nm ns A c h hL hst hla hr hb'
  by_cases h5 : how = 5
  · subst h5; exact write_5 w R M L d st v pl fn nm ns A c h hL hst hla hr hb'
  by_cases h6 : how = 6
  · subst h6; exact write_6 w R M L d st v pl fn nm ns A c h hL hst hla hr hb'
  by_cases h7 : how = 7
  · subst h7; exact write_7 w R M L d st v pl fn nm ns A c h hL hst hla hr hb'
  refine (w_other w R (Nat.le_of_lt h.box.blt) how pl fn nm A ns.length c h1 h2 h3 h4 h5 h6 h7).mono fun e w' h8 => WrAns.no h8 (wstep_none (step_bad h1 h2 ?_))
  unfold okI
  rw [decide_eq_false (fun hh => by have h9 := hh.1; have h10 := hh.2.1; have h9 : 3 ≤ how := h9; have h10 : how ≤ 7 := h10; omega), Bool.false_and]
end Go.Proofs.YtbapgdhcbfpdoaaGreatDoor
/- Contract of the code's expression. -/
namespace Go.Proofs.YtbapgdhcbfpdoaaGreatDoor
open Go.RowKit
set_option linter.unusedVariables false
set_option linter.unusedSimpArgs false
set_option maxRecDepth 100000
theorem step_len {st st' : List Pt} {x : It} (h : stepP st x = some st') : st'.length ≤ st.length + 1 := by
  unfold stepP at h
  split at h
  · split at h
    · injection h with h; subst h; simp
    · cases h
  split at h
  · cases h
  split at h
  · split at h
    · injection h with h; subst h; simp
    · cases h
  · split at h
    · injection h with h; subst h; simp
    · cases h
theorem wstep_of {L : Nat} {st st' : List Pt} {x : It} (h : wstep L st x = some st') : stepP st x = some st' ∧ fitK L st' = true := by
  unfold wstep at h
  cases hs : stepP st x with
  | none => rw [hs] at h; cases h
  | some s =>
    rw [hs, Option.bind_some] at h
    by_cases hf : fitK L s = true
    · rw [if_pos hf] at h; injection h with h; subst h; exact ⟨rfl, hf⟩
    · rw [if_neg hf] at h; cases h
theorem wrun_len {L : Nat} : ∀ {l : List It} {st st' : List Pt}, wrun L l st = some st' → st'.length ≤ st.length + l.length
  | [], st, st', h => by simp only [wrun, Option.some.injEq] at h; subst h; exact Nat.le_refl _
  | x :: r, st, st', h => by
    have h : (wstep L st x).bind (wrun L r) = some st' := h
    cases hs : wstep L st x with
    | none => rw [hs] at h; cases h
    | some s =>
      rw [hs, Option.bind_some] at h
      have h1 := step_len (wstep_of hs).1
      have h2 := wrun_len h
      simp only [List.length_cons]
      omega
theorem wrun_app {L : Nat} : ∀ (l m : List It) (st : List Pt), wrun L (l ++ m) st = (wrun L l st).bind (wrun L m)
  | [], m, st => rfl
  | x :: l, m, st => by
    show (wstep L st x).bind (wrun L (l ++ m)) = ((wstep L st x).bind (wrun L l)).bind (wrun L m)
    cases wstep L st x with
    | none => rfl
    | some s => exact wrun_app l m s
theorem it_drop {l : List It} {j : Nat} (h : j < l.length) : l.drop j = l.getD j default :: l.drop (j + 1) := by
  rw [List.drop_eq_getElem_cons h, List.getD_eq_getElem?_getD, List.getElem?_eq_getElem h]; rfl
theorem take_at {l : List It} {j : Nat} (h : j < l.length) : l.take (j + 1) = l.take j ++ [l.getD j default] := by
  rw [List.take_add_one, List.getElem?_eq_getElem h, List.getD_eq_getElem?_getD, List.getElem?_eq_getElem h]; rfl
theorem wrun_stop {L : Nat} {l : List It} {j : Nat} (hj : j < l.length) {st : List Pt} (h : wrun L (l.take j) [] = some st) (hs : wstep L st (l.getD j default) = none) : wrun L l [] = none := by
  rw [← List.take_append_drop j l, wrun_app, h, Option.bind_some, it_drop hj]
  show (wstep L st _).bind _ = none
  rw [hs]; rfl
theorem wrun_go {L : Nat} {l : List It} {j : Nat} (hj : j < l.length) {st st' : List Pt} (h : wrun L (l.take j) [] = some st) (hs : wstep L st (l.getD j default) = some st') : wrun L (l.take (j + 1)) [] = some st' := by
  rw [take_at hj, wrun_app, h, Option.bind_some]
  show (wstep L st _).bind _ = some st'
  rw [hs]; rfl
/-- What a text that may not be answers. -/
def TxAns (w : World) (a : Option (List UInt8)) (e : Ending) (w' : World) : Prop := e = .returned (.tuple #[.string (bs (a.getD [])), .bool a.isSome]) ∧ Below w.heap.size w w'
theorem ItB.of_mem {l : List It} (h : ∀ x ∈ l, ItB x) {j : Nat} (hj : j < l.length) : ItB (l.getD j default) := by
  rw [List.getD_eq_getElem?_getD, List.getElem?_eq_getElem hj]; exact h _ (List.getElem_mem hj)
set_option maxHeartbeats 3200000 in
theorem expression_any (w : World) (M k : Nat) (l : List It) (n : Nat) (A : Option Addr) (c : Nat) (hla : LaidP w) (hM : w.heap[M]? = some (tabM 26)) (hl : l.length = n) (h : ItsU w A l) (hb : ∀ x ∈ l, ItB x) (hc : n ≤ c) (hn2 : n ≤ 9223372036854775807) (hk : k ≤ 256) (t : Int) (ht : t = ((256 - k : Nat) : Int)) :
    Calls Tryz.prog 41 #[.slice A n c, .int .i64 t, .map (some M)] w (TxAns w (exprP l k)) := by
  obtain ⟨L, hLd⟩ : ∃ L, L = 256 - k := ⟨_, rfl⟩
  rw [← hLd] at ht
  subst ht
  have hL : L ≤ 256 := by omega
  have hX : exprP l k = match wrun L l [] with
    | some [p] => some p.s
    | _ => none := by rw [hLd]; exact expr_code l k hk
  have HX := Lib.hid hX
  have hMl : M < w.heap.size := heap_lt hM
  have HM := Lib.hid hM
  have HI := Lib.hid h
  have HB := Lib.hid (And.intro hl hb)
  have HLA := Lib.hid hla
  obtain ⟨W, hW⟩ : ∃ W, W = w.alloc (.cells #[.map (some M), .slice none 0 0, .int .i64 L] 107) := ⟨_, rfl⟩
  have hWb : Below w.heap.size w W := by rw [hW]; exact (Below.refl _ _).alloc (Nat.le_refl _) _
  have hWn : W.heap[w.heap.size]? = some (.cells #[.map (some M), .slice none 0 0, .int .i64 L] 107 (0, 0)) := by rw [hW]; exact heap_alloc_new w _
  have hWs : W.heap.size = w.heap.size + 1 := by rw [hW]; simp
  have hS0 : WS W w.heap.size M L [] (.slice none 0 0) L := ⟨⟨hWn, (hWb.block M hMl).trans hM, hMl⟩, OV.nil _ _, Nat.zero_add L, rfl, fun p hp => by cases hp⟩
  have HS0 := Lib.hid hS0
  have HW := Lib.hid (And.intro hW hWb)
  clear hX hM h hl hb hla hW hWb hWn hS0 hLd hk
  go_enter Tryz.func41, Tryz.ntmps41
  go_wp2_with fail
  rw [← HW.out.1]
  go_loopw [16] (fun i wr => ∃ (j : Nat) (st : List Pt) (v : Value) (d : Nat), j ≤ n ∧ i = .int .i64 j ∧ Hid (wrun L (l.take j) [] = some st ∧ WS wr w.heap.size M L st v d ∧ Below w.heap.size w wr)) (fun i _ => n - (intOf i).toNat)
  case atStart => exact ⟨0, [], _, L, by omega, rfl, rfl, HS0.out, HW.out.2⟩
  case round =>
    obtain ⟨j, st, v, d, hj, rfl, HR⟩ := hrel
    have hbr := HR.out.2.1.box.blt
    by_cases hlt : j < n
    · obtain ⟨x, hx⟩ : ∃ x, x = l.getD j default := ⟨_, rfl⟩
      have hjl : j < l.length := by rw [HB.out.1]; exact hlt
      have hxb : ItB x := by rw [hx]; exact ItB.of_mem HB.out.2 hjl
      obtain ⟨b, o, rfl, lb, hi⟩ := HI.out (by omega)
      obtain ⟨a0, a1, a2, a3, A1, c1, a4, a5, a6⟩ := hi j hjl
      rw [← hx] at a0 a1 a2 a3 a4 a6
      have u0 : wr.cell? ⟨b, o + j * 5, none⟩ = some (.int .i64 x.how) := (cell_below HR.out.2.2 lb _).trans a0
      have u1 : wr.cell? ⟨b, o + j * 5 + 1, none⟩ = some (.int .i64 x.pl) := (cell_below HR.out.2.2 lb _).trans a1
      have u2 : wr.cell? ⟨b, o + j * 5 + 2, none⟩ = some (.int .u8 x.fn) := (cell_below HR.out.2.2 lb _).trans a2
      have u3 : wr.cell? ⟨b, o + j * 5 + 3, none⟩ = some (.string (bs x.nm)) := (cell_below HR.out.2.2 lb _).trans a3
      have u4 : wr.cell? ⟨b, o + j * 5 + 4, none⟩ = some (.slice A1 x.ns.length c1) := (cell_below HR.out.2.2 lb _).trans a4
      have q1 := idxIt b o n c j hlt
      have hlst : st.length ≤ 1000 := by
        have h1 := wrun_len HR.out.1
        have h2 := (wrun_run HR.out.1).2.1
        have h3 := HR.out.2.1.sum
        rw [List.length_take, Nat.min_eq_left (by omega)] at h1 h2
        simp only [List.length_nil] at h1
        omega
      have hnr : NumR wr w.heap.size A1 x.ns := fun hp => by
        obtain ⟨b2, o2, e2, l2, h2⟩ := a6 hp
        exact ⟨b2, o2, e2, l2, fun i hi => (cell_below HR.out.2.2 l2 _).trans (h2 i hi)⟩
      have HXX := Lib.hid (And.intro hx (And.intro hjl (And.intro hxb (And.intro hlst hnr))))
      have hlr : LaidR wr w.heap.size := ⟨w, HLA.out, Nat.le_refl _, HR.out.2.2⟩
      have HLR := Lib.hid hlr
      clear a0 a1 a2 a3 a4 a5 a6 hi hx hjl hxb hlst hnr hlr
      go_wp2_with fail
      have hWx : Below wr.heap.size wr (wr.alloc (.cells #[.int .i64 x.how, .int .i64 x.pl, .int .u8 x.fn, .string (bs x.nm), .slice A1 x.ns.length c1] 37)) := (Below.refl _ _).alloc (Nat.le_refl _) _
      have HWR := Lib.hid (write_any _ w.heap.size M L d st v x A1 c1 (HR.out.2.1.below hWx) hL HXX.out.2.2.2.1 (HLR.out.below hWx) (HXX.out.2.2.2.2.below (hWx.mono (Nat.le_of_lt hbr))) HXX.out.2.2.1)
      refine HWR.out.mono ?_
      rintro e w2 ⟨rfl, b2, hst⟩
      have B2 := Lib.hid (HR.out.2.2.trans ((hWx.mono (Nat.le_of_lt hbr)).trans b2))
      cases hws : wstep L st x with
      | none =>
        have hfin : TxAns w (exprP l k) (.returned (.tuple #[.string ⟨#[]⟩, .bool false])) w2 := by
          refine ⟨?_, B2.out⟩
          rw [HX.out, wrun_stop HXX.out.2.1 HR.out.1 (by rw [← HXX.out.1]; exact hws)]
          rfl
        have HF := Lib.hid hfin
        clear hfin hws hst u0 u1 u2 u3 u4 q1
        go_wp2
        exact bodyPost_ret (v := .tuple #[.string ⟨#[]⟩, .bool false]) (R := TxAns w (exprP l k)) (by simp [results, Tryz.results41, go_sem]) rfl HF.out
      | some st2 =>
        obtain ⟨v2, d2, hs2⟩ := hst st2 hws
        have HN := Lib.hid (And.intro (wrun_go HXX.out.2.1 HR.out.1 (by rw [← HXX.out.1]; exact hws)) hs2)
        clear hws hst hs2 u0 u1 u2 u3 u4 q1
        go_wp2
        go_roundw
        case rel => exact ⟨j + 1, st2, v2, d2, by omega, by go_num, HN.out.1, HN.out.2, B2.out⟩
        case measure => simp [intOf]; omega
    · obtain rfl : j = n := by omega
      have hrun : wrun L l [] = some st := by
        have := HR.out.1
        rwa [List.take_of_length_le (by rw [HB.out.1]; exact Nat.le_refl _)] at this
      have hX := HX.out
      rw [hrun] at hX
      obtain ⟨c0, c1, c2, f1, f2⟩ := HR.out.2.1.box.cells
      obtain ⟨A2, m2, rfl, hm2⟩ := HR.out.2.1.own.shape
      match st, HR, hX with
      | [], HR, hX =>
        have HF := Lib.hid (show TxAns w (exprP l k) (.returned (.tuple #[.string ⟨#[]⟩, .bool false])) wr from ⟨by rw [hX]; rfl, HR.out.2.2⟩)
        clear hX hrun
        simp only [List.length_reverse, List.length_nil] at c1
        go_wp2
        exact bodyPost_ret (v := .tuple #[.string ⟨#[]⟩, .bool false]) (R := TxAns w (exprP l k)) (by simp [results, Tryz.results41, go_sem]) rfl HF.out
      | [p], HR, hX =>
        have HF := Lib.hid (show TxAns w (exprP l k) (.returned (.tuple #[.string (bs p.s), .bool true])) wr from ⟨by rw [hX]; rfl, HR.out.2.2⟩)
        obtain ⟨g, cc, e, hcc, hgl, hBg, z0, z1, z2⟩ := HR.out.2.1.own.cells 0 (by simp)
        rw [e] at c1
        have q1 := idxVl g 1 cc 0 (by decide)
        simp only [List.length_reverse, List.length_cons, List.length_nil, Nat.zero_add, Nat.zero_mul, List.reverse_cons, List.reverse_nil, List.nil_append] at c1 z0 q1
        have z0 : wr.cell? ⟨g, 0, none⟩ = some (.string (bs p.s)) := z0
        clear hX hrun e z1 z2
        go_wp2
        exact bodyPost_ret (v := .tuple #[.string (bs p.s), .bool true]) (R := TxAns w (exprP l k)) (by simp [results, Tryz.results41, go_sem]) rfl HF.out
      | p :: q :: r, HR, hX =>
        have HF := Lib.hid (show TxAns w (exprP l k) (.returned (.tuple #[.string ⟨#[]⟩, .bool false])) wr from ⟨by rw [hX]; rfl, HR.out.2.2⟩)
        have hne : (((r.length + 1 + 1 : Nat) : Int) != 1) = true := by rw [bne_iff_ne]; omega
        clear hX hrun
        simp only [List.length_reverse, List.length_cons] at c1
        go_wp2
        exact bodyPost_ret (v := .tuple #[.string ⟨#[]⟩, .bool false]) (R := TxAns w (exprP l k)) (by simp [results, Tryz.results41, go_sem]) rfl HF.out
end Go.Proofs.YtbapgdhcbfpdoaaGreatDoor
/- Contracts of the code's lineText, sideText, inputText. -/
namespace Go.Proofs.YtbapgdhcbfpdoaaGreatDoor
open Go.RowKit
set_option linter.unusedVariables false
set_option maxRecDepth 100000
/-- A text that may be, or none: then whatever. -/
def TxLn (w : World) (a : Option (List UInt8)) (e : Ending) (w' : World) : Prop := (match a with
    | some s => e = .returned (.tuple #[.string (bs s), .bool true])
    | none => ∃ s : ByteArray, e = .returned (.tuple #[.string s, .bool false])) ∧ Below w.heap.size w w'
theorem exp_size {a : Option (List UInt8)} (h : ∀ s, a = some s → s.length ≤ 6144) : (bs (a.getD [])).size ≤ 6144 := by
  rw [bs_size]
  cases a with
  | none => exact Nat.zero_le _
  | some s => exact h s rfl
abbrev lnC (m : Ln) (A : Option Addr) (n c : Nat) : Obj := .cells #[.string (bs m.nm), .int .i64 m.pl, .slice A n c] 33
section
variable (w : World) (M : Nat) (m : Ln) (n : Nat) (A : Option Addr) (c : Nat) (hla : LaidP w) (hM : w.heap[M]? = some (tabM 26)) (hn : m.its.length = n) (h : ItsU w A m.its) (hb : LnB m) (hc : n ≤ c)
set_option maxHeartbeats 1600000 in
theorem line_bad1 (hnm : m.nm ≠ []) (hb : m.nm.length ≤ 140737488355320) : Calls Tryz.prog 26 #[.agg #[.string (bs m.nm), .int .i64 m.pl, .slice A n c], .bool true, .map (some M)] w (TxLn w none) := by
  have hbn : ((bs m.nm).toList == []) = false := cmpNo hnm
  have hbm : ((bs m.nm).toList != []) = true := by rw [bne, hbn]; rfl
  have hz : (bs m.nm).size ≤ 140737488355320 := by rw [bs_size]; exact hb
  clear hnm hb
  go_enter Tryz.func26, Tryz.ntmps26
  go_wp2
  exact bodyPost_ret (v := .tuple #[.string ⟨#[]⟩, .bool false]) (R := TxLn w none) (by simp [results, Tryz.results26, go_sem]) rfl ⟨⟨_, rfl⟩, (Below.refl _ _).alloc (Nat.le_refl _) _⟩
set_option maxHeartbeats 1600000 in
include hla in
theorem line_bad2 (hnm : nameB m.nm = false) (hb : m.nm.length ≤ 140737488355320) : Calls Tryz.prog 26 #[.agg #[.string (bs m.nm), .int .i64 m.pl, .slice A n c], .bool false, .map (some M)] w (TxLn w none) := by
  have hW : Below w.heap.size w (w.alloc (lnC m A n c)) := (Below.refl _ _).alloc (Nat.le_refl _) _
  have hname := name_any (bs m.nm) _ (hla.below hW) (by rw [bs_size]; exact hb)
  rw [bs_list, hnm] at hname
  have HM := Lib.hid hname
  have HW := Lib.hid hW
  have hz : (bs m.nm).size ≤ 140737488355320 := by rw [bs_size]; exact hb
  clear hnm hb hname hla hW
  go_enter Tryz.func26, Tryz.ntmps26
  go_wp2_with fail
  refine HM.out.mono ?_
  rintro e w1 ⟨rfl, b1⟩
  have B1 := Lib.hid (HW.out.trans (b1.mono HW.out.size))
  clear b1
  go_wp2
  exact bodyPost_ret (v := .tuple #[.string ⟨#[]⟩, .bool false]) (R := TxLn w none) (by simp [results, Tryz.results26, go_sem]) rfl ⟨⟨_, rfl⟩, B1.out⟩
set_option maxHeartbeats 1600000 in
include hla hM hn h hb hc in
theorem line_last (hnm : m.nm = []) : Calls Tryz.prog 26 #[.agg #[.string (bs m.nm), .int .i64 m.pl, .slice A n c], .bool true, .map (some M)] w (TxLn w ((exprP m.its 1).map fun t => [111, 117, 116, 32] ++ t)) := by
  have hbn : ((bs m.nm).toList == []) = true := cmpYes hnm
  have hbm : ((bs m.nm).toList != []) = false := by rw [bne, hbn]; rfl
  have hz : (bs m.nm).size ≤ 10 := by rw [bs_size, hnm]; decide
  have hW : Below w.heap.size w (w.alloc (lnC m A n c)) := (Below.refl _ _).alloc (Nat.le_refl _) _
  have hex := expression_any _ M 1 m.its n A c (hla.below hW) ((hW.block _ (heap_lt hM)).trans hM) hn (h.below hW) hb.its hc (by rw [← hn]; exact hb.len) (by decide) 255 (by decide)
  have hsz := exp_size (a := exprP m.its 1) fun s hs => exprP_len hs fun x hx => (hb.its x hx).ns
  obtain ⟨a, ha⟩ : ∃ a, a = exprP m.its 1 := ⟨_, rfl⟩
  rw [← ha] at hex hsz ⊢
  obtain ⟨T, hT⟩ : ∃ T, T = a.map fun t => [111, 117, 116, 32] ++ t := ⟨_, rfl⟩
  rw [← hT]
  have HT := Lib.hid hT
  have HE := Lib.hid hex
  have HW := Lib.hid hW
  clear hex hW hla hM h hb hn hnm ha hT
  go_enter Tryz.func26, Tryz.ntmps26
  go_wp2_with fail
  refine HE.out.mono ?_
  rintro e w1 ⟨rfl, b1⟩
  have B1 := Lib.hid (HW.out.trans (b1.mono HW.out.size))
  clear b1
  cases a with
  | none =>
    simp only [Option.getD_none, Option.isSome_none] at hsz ⊢
    go_wp2
    refine bodyPost_ret (v := .tuple #[.string (⟨#[111, 117, 116]⟩ ++ ⟨#[32]⟩ ++ bs []), .bool false]) (R := TxLn w T) (by simp [results, Tryz.results26, go_sem]) rfl ?_
    rw [HT.out]
    exact ⟨⟨_, rfl⟩, B1.out⟩
  | some s =>
    simp only [Option.getD_some, Option.isSome_some] at hsz ⊢
    go_wp2
    refine bodyPost_ret (v := .tuple #[.string (⟨#[111, 117, 116]⟩ ++ ⟨#[32]⟩ ++ bs s), .bool true]) (R := TxLn w T) (by simp [results, Tryz.results26, go_sem]) rfl ?_
    rw [HT.out]
    exact ⟨by rw [show (⟨#[111, 117, 116]⟩ : ByteArray) = bs [111, 117, 116] from rfl, show (⟨#[32]⟩ : ByteArray) = bs [32] from rfl, cat_bs, cat_bs]; rfl, B1.out⟩
set_option maxHeartbeats 1600000 in
include hla hM hn h hb hc in
theorem line_more (hnm : nameB m.nm = true) : Calls Tryz.prog 26 #[.agg #[.string (bs m.nm), .int .i64 m.pl, .slice A n c], .bool false, .map (some M)] w (TxLn w ((exprP m.its 2).map fun t => m.nm ++ [58, 32] ++ t)) := by
  have hz : (bs m.nm).size ≤ 16 := by rw [bs_size]; exact nameB_le hnm
  have hW : Below w.heap.size w (w.alloc (lnC m A n c)) := (Below.refl _ _).alloc (Nat.le_refl _) _
  have hname := name_any (bs m.nm) _ (hla.below hW) (by omega)
  rw [bs_list, hnm] at hname
  have HM := Lib.hid hname
  have hex := fun W (hb2 : Below w.heap.size w W) => expression_any W M 2 m.its n A c (hla.below hb2) ((hb2.block _ (heap_lt hM)).trans hM) hn (h.below hb2) hb.its hc (by rw [← hn]; exact hb.len) (by decide) 254 (by decide)
  have hsz := exp_size (a := exprP m.its 2) fun s hs => exprP_len hs fun x hx => (hb.its x hx).ns
  obtain ⟨a, ha⟩ : ∃ a, a = exprP m.its 2 := ⟨_, rfl⟩
  rw [← ha] at hex hsz ⊢
  have HE := Lib.hid hex
  have HW := Lib.hid hW
  have hw0 : ∀ W, Below w.heap.size w W → W.cell? ⟨w.heap.size, 0, none⟩ = W.cell? ⟨w.heap.size, 0, none⟩ := fun _ _ => rfl
  clear hex hW hla hM h hb hn hnm ha hname hw0
  go_enter Tryz.func26, Tryz.ntmps26
  go_wp2_with fail
  refine HM.out.mono ?_
  rintro e w1 ⟨rfl, b1⟩
  have hs1 := b1.size
  have k1 : w1.heap[w.heap.size]? = some (.cells #[.string (bs m.nm), .int .i64 m.pl, .slice A n c] 33 (0, 0)) := (b1.block _ (by simp)).trans (heap_alloc_new w _)
  have k2 : w1.cell? ⟨w.heap.size, 2, none⟩ = some (.slice A n c) := by rw [cell_of_row _ _ _ _ _ _ k1]; rfl
  have B1 := Lib.hid (HW.out.trans (b1.mono HW.out.size))
  clear b1 k1
  go_wp2_with fail
  refine (HE.out _ B1.out).mono ?_
  rintro e w2 ⟨rfl, b2⟩
  have B2 := Lib.hid (B1.out.trans (b2.mono B1.out.size))
  clear b2 k2
  cases a with
  | none =>
    simp only [Option.getD_none, Option.isSome_none] at hsz ⊢
    go_wp2
    refine bodyPost_ret (v := .tuple #[.string (bs m.nm ++ ⟨#[58]⟩ ++ ⟨#[32]⟩ ++ bs []), .bool false]) (R := TxLn w none) (by simp [results, Tryz.results26, go_sem]) rfl ?_
    exact ⟨⟨_, rfl⟩, B2.out⟩
  | some s =>
    simp only [Option.getD_some, Option.isSome_some] at hsz ⊢
    go_wp2
    refine bodyPost_ret (v := .tuple #[.string (bs m.nm ++ ⟨#[58]⟩ ++ ⟨#[32]⟩ ++ bs s), .bool true]) (R := TxLn w (some (m.nm ++ [58, 32] ++ s))) (by simp [results, Tryz.results26, go_sem]) rfl ?_
    refine ⟨?_, B2.out⟩
    rw [show (⟨#[58]⟩ : ByteArray) = bs [58] from rfl, show (⟨#[32]⟩ : ByteArray) = bs [32] from rfl, cat_bs, cat_bs, cat_bs]
    simp
include hla hM hn h hb hc in
theorem lineText_any (last : Bool) : Calls Tryz.prog 26 #[.agg #[.string (bs m.nm), .int .i64 m.pl, .slice A n c], .bool last, .map (some M)] w (TxLn w (lnP m last)) := by
  unfold lnP
  cases last with
  | true =>
    rw [if_pos rfl]
    by_cases h1 : m.nm = []
    · rw [if_pos h1]; exact line_last w M m n A c hla hM hn h hb hc h1
    · rw [if_neg h1]; exact line_bad1 w M m n A c h1 hb.nm
  | false =>
    rw [if_neg (by decide)]
    by_cases h1 : nameB m.nm = false
    · rw [if_pos h1]; exact line_bad2 w M m n A c hla h1 hb.nm
    · rw [if_neg h1]; exact line_more w M m n A c hla hM hn h hb hc (by simpa using h1)
end
/-! ### a side -/
abbrev sdC (d : List UInt8 × Int) : Obj := .cells #[.string (bs d.1), .int .i64 d.2] 50
set_option maxHeartbeats 1600000 in
theorem side_num (w : World) (hla : LaidP w) (d : List UInt8 × Int) (h1 : d.1 = []) (hr : rng d.2) : Calls Tryz.prog 39 #[.agg #[.string (bs d.1), .int .i64 d.2]] w (TxLn w (some (digs d.2))) := by
  have hbn : ((bs d.1).toList == []) = true := cmpYes h1
  have hW : Below w.heap.size w (w.alloc (sdC d)) := (Below.refl _ _).alloc (Nat.le_refl _) _
  have HN := Lib.hid (shnum_any d.2 _ (hla.below hW) hr)
  have HW := Lib.hid hW
  clear h1 hr hla hW
  go_enter Tryz.func39, Tryz.ntmps39
  go_wp2_with fail
  refine HN.out.mono ?_
  rintro e w1 ⟨rfl, b1⟩
  have B1 := Lib.hid (HW.out.trans (b1.mono HW.out.size))
  clear b1
  go_wp2
  exact bodyPost_ret (v := .tuple #[.string (bs (digs d.2)), .bool true]) (R := TxLn w (some (digs d.2))) (by simp [results, Tryz.results39, go_sem]) rfl ⟨rfl, B1.out⟩
set_option maxHeartbeats 1600000 in
theorem side_nz (w : World) (hla : LaidP w) (d : List UInt8 × Int) (h1 : d.1 ≠ []) (h2 : d.2 ≠ 0) : Calls Tryz.prog 39 #[.agg #[.string (bs d.1), .int .i64 d.2]] w (TxLn w none) := by
  have hbn : ((bs d.1).toList == []) = false := cmpNo h1
  have hz : (d.2 == 0) = false := beq0 h2
  obtain ⟨W, hW0⟩ : ∃ W, W = w.alloc (sdC d) := ⟨_, rfl⟩
  have hW : Below w.heap.size w W := by rw [hW0]; exact (Below.refl _ _).alloc (Nat.le_refl _) _
  have k1 : W.heap[w.heap.size]? = some (sdC d) := by rw [hW0]; exact heap_alloc_new w _
  have u0 := fun j => (show (W.drewN j).cell? ⟨w.heap.size, 0, none⟩ = some (.string (bs d.1)) by rw [show (W.drewN j).cell? ⟨w.heap.size, 0, none⟩ = W.cell? ⟨w.heap.size, 0, none⟩ from rfl, cell_of_row _ _ _ _ _ _ k1]; rfl)
  have u1 := fun j => (show (W.drewN j).cell? ⟨w.heap.size, 1, none⟩ = some (.int .i64 d.2) by rw [show (W.drewN j).cell? ⟨w.heap.size, 1, none⟩ = W.cell? ⟨w.heap.size, 1, none⟩ from rfl, cell_of_row _ _ _ _ _ _ k1]; rfl)
  have HW := Lib.hid (And.intro hW0 hW)
  clear h1 h2 hW0 hW hla k1
  go_enter Tryz.func39, Tryz.ntmps39
  go_wp2_with fail
  rw [← HW.out.1]
  go_quiet (fail)
  go_wp2
  exact bodyPost_ret (v := .tuple #[.string (bs d.1), .bool false]) (R := TxLn w none) (by simp [results, Tryz.results39, go_sem]) rfl ⟨⟨_, rfl⟩, by first | exact HW.out.2 | exact below_drewN HW.out.2 HW.out.2.size⟩
theorem hid_drew {V w : World} {n : Nat} (h : Hid (Below V.heap.size V w)) : Hid (Below V.heap.size V (w.drewN n)) := below_drewN h.out h.out.size
theorem hid_trans {V w w' : World} (h : Hid (Below V.heap.size V w)) (g : Below w.heap.size w w') : Hid (Below V.heap.size V w') := h.out.trans (g.mono h.out.size)
set_option maxHeartbeats 3200000 in
theorem side_name (w : World) (hla : LaidP w) (d : List UInt8 × Int) (h1 : d.1 ≠ []) (h2 : d.2 = 0) (hl : d.1.length ≤ 140737488355320) : Calls Tryz.prog 39 #[.agg #[.string (bs d.1), .int .i64 d.2]] w (TxLn w (if nameB d.1 = true then some d.1 else none)) := by
  obtain ⟨nm, n⟩ := d
  subst h2
  have hbn : ((bs nm).toList == []) = false := cmpNo h1
  obtain ⟨W, hW0⟩ : ∃ W, W = w.alloc (sdC (nm, 0)) := ⟨_, rfl⟩
  have hW : Below w.heap.size w W := by rw [hW0]; exact (Below.refl _ _).alloc (Nat.le_refl _) _
  have k1 : W.heap[w.heap.size]? = some (sdC (nm, 0)) := by rw [hW0]; exact heap_alloc_new w _
  have u0 : W.cell? ⟨w.heap.size, 0, none⟩ = some (.string (bs nm)) := by rw [cell_of_row _ _ _ _ _ _ k1]; rfl
  have u1 : W.cell? ⟨w.heap.size, 1, none⟩ = some (.int .i64 0) := by rw [cell_of_row _ _ _ _ _ _ k1]; rfl
  have hlW : w.heap.size < W.heap.size := heap_lt k1
  have KS : ∀ w', Hid (Below W.heap.size W w') → w'.cell? ⟨w.heap.size, 0, none⟩ = some (.string (bs nm)) ∧ w'.cell? ⟨w.heap.size, 1, none⟩ = some (.int .i64 0) ∧ Hid (Below W.heap.size W w') := fun w' h => ⟨(cell_below h.out hlW _).trans u0, (cell_below h.out hlW _).trans u1, h⟩
  have HNM := Lib.hid (fun W' (hb : Below W.heap.size W W') => name_any (bs nm) W' ((hla.below hW).below hb) (by rw [bs_size]; exact hl))
  rw [bs_list] at HNM
  have HW := Lib.hid (And.intro hW0 hW)
  have k0 : Hid (Below W.heap.size W W) := Lib.hid (Below.refl _ _)
  obtain ⟨D, hD⟩ : ∃ D, D = nameB nm := ⟨_, rfl⟩
  rw [← hD] at HNM
  show Calls _ _ _ w (TxLn w (if nameB nm = true then some nm else none))
  rw [← hD]
  obtain ⟨T, hT⟩ : ∃ T, T = if D = true then some nm else none := ⟨_, rfl⟩
  rw [← hT]
  have HT := Lib.hid hT
  clear hT h1 hW0 hW hla k1 hl hD
  go_enter Tryz.func39, Tryz.ntmps39
  go_wp2
  rw [← HW.out.1]
  go_region_held3 (fun w' => w'.cell? ⟨w.heap.size, 0, none⟩ = some (.string (bs nm)) ∧ w'.cell? ⟨w.heap.size, 1, none⟩ = some (.int .i64 0) ∧ Hid (Below W.heap.size W w'))
    (first | (exact KS _ (by first | assumption | exact hid_drew (by assumption))) | go_keep)
    (first | (go_at_call 38; refine (HNM.out _ (Hid.out (by first | assumption | (simp [*])))).mono ?_; rintro e w5 ⟨rfl, g5'⟩; have k5 : Hid (Below W.heap.size W w5) := hid_trans (by simp [*]) g5'; clear g5'))
  clear KS u0 u1
  go_wp2
  refine bodyPost_ret (v := .tuple #[.string (bs nm), .bool D]) (R := TxLn w T) (by simp [results, Tryz.results39, go_sem]) rfl ?_
  rw [HT.out]
  refine ⟨?_, HW.out.2.trans ((show Below W.heap.size W _ by first | exact k5.out | exact (hid_drew k5).out).mono HW.out.2.size)⟩
  cases D with
  | true => rfl
  | false => exact ⟨_, rfl⟩
theorem sideText_any (w : World) (hla : LaidP w) (d : List UInt8 × Int) (hr : rng d.2) (hl : d.1.length ≤ 140737488355320) : Calls Tryz.prog 39 #[.agg #[.string (bs d.1), .int .i64 d.2]] w (TxLn w (sideP d)) := by
  unfold sideP
  by_cases h1 : d.1 = []
  · rw [if_pos h1]; exact side_num w hla d h1 hr
  · rw [if_neg h1]
    by_cases h2 : d.2 = 0
    · have := side_name w hla d h1 h2 hl
      by_cases h3 : nameB d.1 = true
      · rw [if_pos h3] at this; rw [if_pos ⟨h2, h3⟩]; exact this
      · rw [if_neg h3] at this; rw [if_neg (fun h => h3 h.2)]; exact this
    · rw [if_neg (fun h => h2 h.1)]; exact side_nz w hla d h1 h2
/-! ### an input -/
abbrev inC (m : Inp) (A : Option Addr) (n c : Nat) : Obj := .cells #[.string (bs m.nm), .int .i64 m.pl, .slice A n c] 48
theorem idxSd0 (b o len c k : Nat) (h1 : k < len) (w : World) : (Instr.indexAt 46 (.slice (some ⟨b, o, none⟩) len c) (.int .i64 (k : Int))).run Tryz.prog w = .ok (.pointer (some ⟨b, o + k * 2, none⟩)) w := by
  have e := WideShapes.add_plain b o (k * 2)
  have h0 : (0 : Int) ≤ (k : Int) ∧ (k : Int) < (len : Int) := by omega
  go_simp
set_option maxHeartbeats 1600000 in
theorem input_bad (w : World) (hla : LaidP w) (m : Inp) (n : Nat) (A : Option Addr) (c : Nat) (hnm : nameB m.nm = false) (hb : m.nm.length ≤ 140737488355320) : Calls Tryz.prog 23 #[.agg #[.string (bs m.nm), .int .i64 m.pl, .slice A n c]] w (TxLn w none) := by
  have hW : Below w.heap.size w (w.alloc (inC m A n c)) := (Below.refl _ _).alloc (Nat.le_refl _) _
  have hname := name_any (bs m.nm) _ (hla.below hW) (by rw [bs_size]; exact hb)
  rw [bs_list, hnm] at hname
  have HM := Lib.hid hname
  have HW := Lib.hid hW
  clear hnm hb hname hla hW
  go_enter Tryz.func23, Tryz.ntmps23
  go_wp2_with fail
  refine HM.out.mono ?_
  rintro e w1 ⟨rfl, b1⟩
  have B1 := Lib.hid (HW.out.trans (b1.mono HW.out.size))
  clear b1
  go_wp2
  exact bodyPost_ret (v := .tuple #[.string ⟨#[]⟩, .bool false]) (R := TxLn w none) (by simp [results, Tryz.results23, go_sem]) rfl ⟨⟨_, rfl⟩, B1.out⟩
set_option maxHeartbeats 1600000 in
theorem input_many (w : World) (hla : LaidP w) (m : Inp) (n : Nat) (A : Option Addr) (c : Nat) (hnm : nameB m.nm = true) (hn : 4 < n) (hn2 : n ≤ 9223372036854775807) : Calls Tryz.prog 23 #[.agg #[.string (bs m.nm), .int .i64 m.pl, .slice A n c]] w (TxLn w none) := by
  have hW : Below w.heap.size w (w.alloc (inC m A n c)) := (Below.refl _ _).alloc (Nat.le_refl _) _
  have hname := name_any (bs m.nm) _ (hla.below hW) (by rw [bs_size]; have := nameB_le hnm; omega)
  rw [bs_list, hnm] at hname
  have HM := Lib.hid hname
  have HW := Lib.hid hW
  have hd : decide ((4 : Int) < (n : Int)) = true := decide_eq_true (by omega)
  clear hnm hname hla hW hn
  go_enter Tryz.func23, Tryz.ntmps23
  go_wp2_with fail
  refine HM.out.mono ?_
  rintro e w1 ⟨rfl, b1⟩
  have k1 : w1.heap[w.heap.size]? = some (inC m A n c) := (b1.block _ (by simp)).trans (heap_alloc_new w _)
  have k2 : w1.cell? ⟨w.heap.size, 2, none⟩ = some (.slice A n c) := by rw [cell_of_row _ _ _ _ _ _ k1]; rfl
  have B1 := Lib.hid (HW.out.trans (b1.mono HW.out.size))
  clear b1 k1
  go_wp2
  exact bodyPost_ret (v := .tuple #[.string ⟨#[]⟩, .bool false]) (R := TxLn w none) (by simp [results, Tryz.results23, go_sem]) rfl ⟨⟨_, rfl⟩, B1.out⟩
set_option maxHeartbeats 3200000 in
theorem input_ok (w : World) (hla : LaidP w) (m : Inp) (n : Nat) (A : Option Addr) (c : Nat) (hnm : nameB m.nm = true) (hl : m.sd.length = n) (hn : n ≤ 4) (h : SdU w A m.sd) (hb : InB m) (hc : n ≤ c) : Calls Tryz.prog 23 #[.agg #[.string (bs m.nm), .int .i64 m.pl, .slice A n c]] w (TxLn w ((sidesP m.sd).map fun t => [105, 110, 32] ++ m.nm ++ t)) := by
  have hW : Below w.heap.size w (w.alloc (inC m A n c)) := (Below.refl _ _).alloc (Nat.le_refl _) _
  have hname := name_any (bs m.nm) _ (hla.below hW) (by rw [bs_size]; have := nameB_le hnm; omega)
  rw [bs_list, hnm] at hname
  have HM := Lib.hid hname
  have HW := Lib.hid hW
  have HLA := Lib.hid hla
  have HB := Lib.hid (And.intro hl hb)
  have HI := Lib.hid h
  have hz : (bs m.nm).size ≤ 16 := by rw [bs_size]; exact nameB_le hnm
  have hnl := nameB_le hnm
  have hd : decide ((4 : Int) < (n : Int)) = false := decide_eq_false (by omega)
  obtain ⟨T, hT⟩ : ∃ T, T = (sidesP m.sd).map fun t => [105, 110, 32] ++ m.nm ++ t := ⟨_, rfl⟩
  rw [← hT]
  have HT := Lib.hid hT
  clear hnm hname hla hW hl hb h hT
  go_enter Tryz.func23, Tryz.ntmps23
  go_wp2_with fail
  refine HM.out.mono ?_
  rintro e w1 ⟨rfl, b1⟩
  have k1 : w1.heap[w.heap.size]? = some (inC m A n c) := (b1.block _ (by simp)).trans (heap_alloc_new w _)
  have k0 : w1.cell? ⟨w.heap.size, 0, none⟩ = some (.string (bs m.nm)) := by rw [cell_of_row _ _ _ _ _ _ k1]; rfl
  have k2 : w1.cell? ⟨w.heap.size, 2, none⟩ = some (.slice A n c) := by rw [cell_of_row _ _ _ _ _ _ k1]; rfl
  have B1 := Lib.hid (HW.out.trans (b1.mono HW.out.size))
  clear b1 k1
  go_wp2_with fail
  clear k0 k2
  go_loopw [25, 4] (fun i s wr => ∃ (j : Nat) (acc S : List UInt8), j ≤ n ∧ i = .int .i64 j ∧ s = .string (bs S) ∧ S.length ≤ 19 + 22 * j ∧ Hid (S = [105, 110, 32] ++ m.nm ++ acc) ∧ Hid (sidesP (m.sd.take j) = some acc ∧ Below w.heap.size w wr)) (fun i _ _ => n - (intOf i).toNat)
  case atStart => exact ⟨0, [], [105, 110, 32] ++ m.nm, by omega, rfl, by rw [show (⟨#[105, 110, 32]⟩ : ByteArray) = bs [105, 110, 32] from rfl, cat_bs], by simp only [List.length_append, List.length_cons, List.length_nil]; omega, (List.append_nil _).symm, rfl, B1.out⟩
  case round =>
    obtain ⟨j, acc, S, hj, rfl, rfl, hacc, HSS, HR⟩ := hrel
    have hza : (bs S).size ≤ 200 := by rw [bs_size]; omega
    by_cases hlt : j < n
    · obtain ⟨x, hx⟩ : ∃ x, x = m.sd.getD j default := ⟨_, rfl⟩
      have hjl : j < m.sd.length := by rw [HB.out.1]; exact hlt
      have hxb : x.1.length ≤ 140737488355320 ∧ rng x.2 := by
        rw [hx, List.getD_eq_getElem?_getD, List.getElem?_eq_getElem hjl]; exact HB.out.2.sd _ (List.getElem_mem hjl)
      obtain ⟨b, o, rfl, lb, hi⟩ := HI.out (by omega)
      obtain ⟨a0, a1⟩ := hi j hjl
      rw [← hx] at a0 a1
      have u0 : wr.cell? ⟨b, o + j * 2, none⟩ = some (.string (bs x.1)) := (cell_below HR.out.2 lb _).trans a0
      have u1 : wr.cell? ⟨b, o + j * 2 + 1, none⟩ = some (.int .i64 x.2) := (cell_below HR.out.2 lb _).trans a1
      have q1 := idxSd0 b o n c j hlt
      have HXX := Lib.hid (And.intro hx (And.intro hjl hxb))
      have hbr := HR.out.2.size
      clear a0 a1 hi hx hjl hxb
      go_wp2_with fail
      have hWx : Below wr.heap.size wr (wr.alloc (sdC x)) := (Below.refl _ _).alloc (Nat.le_refl _) _
      refine (sideText_any _ (HLA.out.below (HR.out.2.trans (hWx.mono hbr))) x HXX.out.2.2.2 HXX.out.2.2.1).mono ?_
      rintro e w2 ⟨he, b2⟩
      have B2 := Lib.hid ((HR.out.2.trans (hWx.mono hbr)).trans (b2.mono (Nat.le_trans hbr hWx.size)))
      clear b2 hWx
      cases hsp : sideP x with
      | none =>
        rw [hsp] at he
        obtain ⟨s, rfl⟩ := he
        have HF := Lib.hid (show TxLn w T (.returned (.tuple #[.string ⟨#[]⟩, .bool false])) w2 from ⟨by rw [HT.out, sides_stop HXX.out.2.1 (by rw [← HXX.out.1]; exact hsp)]; exact ⟨_, rfl⟩, B2.out⟩)
        clear hsp u0 u1 q1
        go_wp2
        exact bodyPost_ret (v := .tuple #[.string ⟨#[]⟩, .bool false]) (R := TxLn w T) (by simp [results, Tryz.results23, go_sem]) rfl HF.out
      | some s =>
        rw [hsp] at he
        subst he
        have hsl := sideP_len hsp HXX.out.2.2.2
        have hzs : (bs s).size ≤ 21 := by rw [bs_size]; exact hsl
        have HN := Lib.hid (sides_go HXX.out.2.1 HR.out.1 (by rw [← HXX.out.1]; exact hsp))
        clear hsp u0 u1 q1
        go_wp2
        go_roundw
        case rel =>
          refine ⟨j + 1, acc ++ 32 :: s, S ++ 32 :: s, by omega, by go_num, ?_, by simp only [List.length_append, List.length_cons]; omega, ?_, HN.out, B2.out⟩
          · rw [show (⟨#[32]⟩ : ByteArray) = bs [32] from rfl, cat_bs, cat_bs]; rfl
          · show S ++ 32 :: s = _
            rw [HSS.out, List.append_assoc]
        case measure => simp [intOf]; omega
    · obtain rfl : j = n := by omega
      have hrun := HR.out.1
      rw [List.take_of_length_le (by rw [HB.out.1]; exact Nat.le_refl _)] at hrun
      have HF := Lib.hid (show TxLn w T (.returned (.tuple #[.string (bs S), .bool true])) wr from ⟨by rw [HT.out, hrun, HSS.out]; rfl, HR.out.2⟩)
      clear hrun
      go_wp2
      exact bodyPost_ret (v := .tuple #[.string (bs S), .bool true]) (R := TxLn w T) (by simp [results, Tryz.results23, go_sem]) rfl HF.out
theorem inputText_any (w : World) (hla : LaidP w) (m : Inp) (n : Nat) (A : Option Addr) (c : Nat) (hl : m.sd.length = n) (h : SdU w A m.sd) (hb : InB m) (hc : n ≤ c) : Calls Tryz.prog 23 #[.agg #[.string (bs m.nm), .int .i64 m.pl, .slice A n c]] w (TxLn w (inputP m)) := by
  unfold inputP
  by_cases h1 : nameB m.nm = false
  · rw [if_pos (.inl h1)]; exact input_bad w hla m n A c h1 hb.nm
  have h1 : nameB m.nm = true := by simpa using h1
  by_cases h2 : 4 < n
  · rw [if_pos (.inr (by rw [hl]; exact h2))]; exact input_many w hla m n A c h1 h2 (by rw [← hl]; exact hb.len)
  · rw [if_neg (fun h => h.elim (fun h => by rw [h1] at h; cases h) (fun h => h2 (by rw [← hl]; exact h)))]
    exact input_ok w hla m n A c h1 hl (by omega) h hb hc
end Go.Proofs.YtbapgdhcbfpdoaaGreatDoor
