/- Layer 4, put together: ShwW, ShwY. -/
import Derived.Test.YtbapgdhcbfpdoaaGreatDoorZSa
/- The code's way to write an expression (tokens and brackets counted on the way), held against the document's. -/
namespace Go.Proofs.YtbapgdhcbfpdoaaGreatDoor
open Go.RowKit
def sumK : List Pt → Nat
  | [] => 0
  | p :: r => p.tk + sumK r
def neK (l : List Pt) : Bool := l.all fun p => decide (p.ne ≤ 32)
def fitK (L : Nat) (l : List Pt) : Bool := decide (sumK l ≤ L) && neK l
def wstep (L : Nat) (st : List Pt) (x : It) : Option (List Pt) := (stepP st x).bind fun l => if fitK L l then some l else none
def wrun (L : Nat) : List It → List Pt → Option (List Pt)
  | [], l => some l
  | x :: r, l => (wstep L l x).bind (wrun L r)
theorem neK_cons (p : Pt) (l : List Pt) : neK (p :: l) = (decide (p.ne ≤ 32) && neK l) := by simp [neK]
theorem fit_mk {L : Nat} {l : List Pt} (h1 : sumK l ≤ L) (h2 : neK l = true) : fitK L l = true := by
  unfold fitK; rw [h2, decide_eq_true h1]; rfl
theorem fit_of {L : Nat} {l : List Pt} (h : fitK L l = true) : sumK l ≤ L ∧ neK l = true := by
  unfold fitK at h; simpa using h
theorem brk_tk (p : Pt) : p.tk ≤ (brkP p).tk := by unfold brkP; split <;> simp
theorem brk_ne (p : Pt) : p.ne ≤ (brkP p).ne := by unfold brkP; split <;> simp
theorem step_more {st st' : List Pt} {x : It} (h : stepP st x = some st') : sumK st < sumK st' ∧ (neK st' = true → neK st = true) := by
  unfold stepP at h
  split at h
  · split at h
    · rename_i hk
      injection h with h
      subst h
      refine ⟨by simp only [sumK]; omega, fun hn => ?_⟩
      rw [neK_cons, Bool.and_eq_true] at hn
      exact hn.2
    · cases h
  split at h
  · cases h
  split at h
  · split at h
    · rename_i q p r
      injection h with h
      subst h
      have h1 := brk_tk p
      have h2 := brk_ne p
      refine ⟨by simp only [sumK, dyP]; split <;> omega, fun hn => ?_⟩
      rw [neK_cons, Bool.and_eq_true] at hn
      have hm : max (brkP p).ne q.ne ≤ 32 := by simpa [dyP] using hn.1
      rw [neK_cons, neK_cons, hn.2, decide_eq_true (by omega), decide_eq_true (by omega)]
      rfl
    · cases h
  · split at h
    · rename_i p r
      injection h with h
      subst h
      refine ⟨by simp only [sumK, monP]; split <;> omega, fun hn => ?_⟩
      rw [neK_cons, Bool.and_eq_true] at hn
      rw [neK_cons, hn.2]
      simpa [monP] using hn.1
    · cases h
theorem wrun_run {L : Nat} : ∀ {l : List It} {st st' : List Pt}, wrun L l st = some st' → runP l st = some st' ∧ sumK st + l.length ≤ sumK st' ∧ (fitK L st = true → fitK L st' = true)
  | [], st, st', h => by
    simp only [wrun, Option.some.injEq] at h
    subst h
    exact ⟨rfl, by simp, id⟩
  | x :: r, st, st', h => by
    have h : ((stepP st x).bind fun l => if fitK L l then some l else none).bind (wrun L r) = some st' := h
    cases hs : stepP st x with
    | none => rw [hs] at h; cases h
    | some s =>
      rw [hs, Option.bind_some] at h
      by_cases hf : fitK L s = true
      · rw [if_pos hf, Option.bind_some] at h
        obtain ⟨h1, h2, h3⟩ := wrun_run h
        have h4 := (step_more hs).1
        refine ⟨?_, by simp only [List.length_cons]; omega, fun _ => h3 hf⟩
        show (stepP st x).bind (runP r) = some st'
        rw [hs]; exact h1
      · rw [if_neg hf] at h; cases h
theorem run_more {l : List It} : ∀ {st st' : List Pt}, runP l st = some st' → sumK st ≤ sumK st' ∧ (neK st' = true → neK st = true) := by
  induction l with
  | nil =>
    intro st st' h
    simp only [runP, Option.some.injEq] at h
    subst h
    exact ⟨Nat.le_refl _, id⟩
  | cons x r ih =>
    intro st st' h
    have h : (stepP st x).bind (runP r) = some st' := h
    cases hs : stepP st x with
    | none => rw [hs] at h; cases h
    | some s =>
      rw [hs] at h
      obtain ⟨h1, h2⟩ := ih h
      obtain ⟨h3, h4⟩ := step_more hs
      exact ⟨by omega, fun hn => h4 (h2 hn)⟩
theorem run_wrun {L : Nat} {l : List It} : ∀ {st st' : List Pt}, runP l st = some st' → fitK L st' = true → wrun L l st = some st' := by
  induction l with
  | nil =>
    intro st st' h _
    exact h
  | cons x r ih =>
    intro st st' h hf
    have h : (stepP st x).bind (runP r) = some st' := h
    show ((stepP st x).bind fun l => if fitK L l then some l else none).bind (wrun L r) = some st'
    cases hs : stepP st x with
    | none => rw [hs] at h; cases h
    | some s =>
      rw [hs] at h
      rw [Option.bind_some]
      obtain ⟨h1, h2⟩ := run_more (st := s) (l := r) h
      obtain ⟨g1, g2⟩ := fit_of hf
      have : fitK L s = true := fit_mk (by omega) (h2 g2)
      rw [if_pos this]
      exact ih h hf
/-- The code's way gives the document's text. -/
theorem expr_code (l : List It) (k : Nat) (hk : k ≤ 256) : exprP l k = match wrun (256 - k) l [] with
    | some [p] => some p.s
    | _ => none := by
  cases hw : wrun (256 - k) l [] with
  | some st =>
    obtain ⟨h1, h2, h3⟩ := wrun_run hw
    have hf := fit_of (h3 rfl)
    have hl : l.length ≤ 256 := by have : sumK ([] : List Pt) = 0 := rfl; omega
    unfold exprP
    rw [if_neg (by omega), h1]
    match st, hf with
    | [], _ => rfl
    | [p], hf =>
      have h4 : p.tk + 0 ≤ 256 - k := hf.1
      have h5 : p.ne ≤ 32 := by have := hf.2; simpa [neK] using this
      show (if 256 < p.tk + k ∨ 32 < p.ne then none else some p.s) = some p.s
      rw [if_neg (by omega)]
    | p :: q :: r, _ => rfl
  | none =>
    unfold exprP
    split
    · rfl
    · split
      · rename_i p hp
        split
        · rfl
        · rename_i hc
          have : fitK (256 - k) [p] = true := fit_mk (by show p.tk + 0 ≤ 256 - k; omega) (by simp [neK]; omega)
          rw [run_wrun hp this] at hw
          cases hw
      · rfl
/-! ### the table of verbs -/
def tabE : List (Int × List UInt8 × List UInt8) := [(1, [43], [43]), (2, [45], [45]), (3, [42], [42]), (4, [37], [37]), (5, [124], [124]), (6, [109, 105, 110], [109, 105, 110]), (7, [109, 97, 120], [109, 97, 120]), (8, [], [61]), (9, [], [126]), (10, [], [60]), (11, [], [60, 61]), (12, [], [62, 61]), (13, [], [62]), (14, [], [97, 110, 100]), (15, [], [111, 114]), (16, [126], []), (17, [], [112, 111, 119]), (32, [105, 111, 116, 97], []), (33, [115, 104, 97, 112, 101], []), (34, [114, 97, 118, 101, 108], []), (35, [114, 101, 118], []), (36, [116, 117, 114, 110], []), (37, [], [114, 104, 111]), (38, [], [116, 97, 107, 101]), (39, [], [100, 114, 111, 112]), (40, [], [99, 97, 116])]
def lookT : List (Int × List UInt8 × List UInt8) → Int → List UInt8 × List UInt8
  | [], _ => ([], [])
  | e :: r, f => if f == e.1 then e.2 else lookT r f
theorem verbR_rng (w : List UInt8) (hw : w ∈ wordsL) (two : Bool) : 0 ≤ verbR w two ∧ verbR w two ≤ 40 := by
  revert w two; decide
theorem verbIn_out (l : List (List UInt8)) (hl : ∀ w ∈ l, w ∈ wordsL) (f : Int) (two : Bool) (h : f < 0 ∨ 40 < f) : verbIn l f two = [] := by
  induction l with
  | nil => rfl
  | cons w r ih =>
    have h1 := verbR_rng w (hl w (List.mem_cons_self ..)) two
    have h2 : (verbR w two == f) = false := by rw [beq_eq_false_iff_ne]; omega
    rw [verbIn, h2, Bool.and_false, if_neg (by simp)]
    exact ih fun x hx => hl x (List.mem_cons_of_mem _ hx)
theorem lookT_out (l : List (Int × List UInt8 × List UInt8)) (hl : ∀ e ∈ l, 0 ≤ e.1 ∧ e.1 ≤ 40) (f : Int) (h : f < 0 ∨ 40 < f) : lookT l f = ([], []) := by
  induction l with
  | nil => rfl
  | cons e r ih =>
    have h1 := hl e (List.mem_cons_self ..)
    have h2 : (f == e.1) = false := by rw [beq_eq_false_iff_ne]; omega
    rw [lookT, h2, if_neg (by simp)]
    exact ih fun x hx => hl x (List.mem_cons_of_mem _ hx)
theorem lookT_in : ∀ n : Fin 41, ∀ two : Bool, verbW (n.val : Int) two = if two then (lookT tabE (n.val : Int)).2 else (lookT tabE (n.val : Int)).1 := by decide
theorem lookT_verb (f : Int) (two : Bool) : verbW f two = if two then (lookT tabE f).2 else (lookT tabE f).1 := by
  by_cases h : f < 0 ∨ 40 < f
  · rw [lookT_out tabE (by decide) f h]
    show verbIn wordsL f two = _
    rw [verbIn_out wordsL (fun _ h => h) f two h]
    cases two <;> rfl
  · obtain ⟨n, rfl⟩ : ∃ n : Nat, f = (n : Int) := ⟨f.toNat, by omega⟩
    exact lookT_in ⟨n, by omega⟩ two
/-- A verb with a mark is one of numbers. -/
theorem mark_tk2 (f : Int) (h : verbW f true ≠ []) : tk2 f = decide (f ≤ 17) := by
  by_cases h0 : f < 0 ∨ 40 < f
  · exact absurd (verbIn_out wordsL (fun _ h => h) f true h0) h
  · obtain ⟨n, rfl⟩ : ∃ n : Nat, f = (n : Int) := ⟨f.toNat, by omega⟩
    have : ∀ n : Fin 41, verbW (n.val : Int) true ≠ [] → tk2 (n.val : Int) = decide ((n.val : Int) ≤ 17) := by decide
    exact this ⟨n, by omega⟩ h
end Go.Proofs.YtbapgdhcbfpdoaaGreatDoor
/- How long values' texts are. -/
namespace Go.Proofs.YtbapgdhcbfpdoaaGreatDoor
open Go.RowKit
set_option linter.unusedVariables false
theorem numsT_le : ∀ {ns : List Int}, (∀ n ∈ ns, rng n) → (numsT ns).length ≤ 24 * ns.length
  | [], _ => Nat.zero_le _
  | [n], h => by have := digs_len (h n (List.mem_cons_self ..)).1 (h n (List.mem_cons_self ..)).2; simp only [numsT, List.length_cons, List.length_nil]; omega
  | n :: m :: r, h => by
    have h1 := digs_len (h n (List.mem_cons_self ..)).1 (h n (List.mem_cons_self ..)).2
    have h2 := numsT_le (ns := m :: r) fun x hx => h x (List.mem_cons_of_mem _ hx)
    simp only [numsT, List.length_append, List.length_cons] at h2 ⊢
    omega
theorem nameB_le {l : List UInt8} (h : nameB l = true) : l.length ≤ 16 := by
  unfold nameB at h
  simp only [Bool.and_eq_true] at h
  have h := h.1.1.1
  cases l with
  | nil => exact Nat.zero_le _
  | cons b r =>
    unfold wordB at h
    simp only [Bool.and_eq_true, decide_eq_true_eq, List.length_cons] at h ⊢
    omega
theorem lookT_lel (f : Int) : ∀ l : List (Int × List UInt8 × List UInt8), (∀ e ∈ l, e.2.1.length ≤ 5 ∧ e.2.2.length ≤ 5) → (lookT l f).1.length ≤ 5 ∧ (lookT l f).2.length ≤ 5
  | [], _ => ⟨Nat.zero_le _, Nat.zero_le _⟩
  | e :: r, h => by
    unfold lookT
    split
    · exact h e (List.mem_cons_self ..)
    · exact lookT_lel f r fun x hx => h x (List.mem_cons_of_mem _ hx)
theorem verbW_le (f : Int) (two : Bool) : (verbW f two).length ≤ 5 := by
  have h := lookT_lel f tabE (by decide)
  rw [lookT_verb]; cases two
  · exact h.1
  · exact h.2
theorem markW_le (h : Int) : (markW h).length ≤ 1 := by
  unfold markW
  split
  · decide
  split
  · decide
  split <;> decide
def ptB (st : List Pt) : Prop := ∀ p ∈ st, p.s.length ≤ 24 * p.tk
theorem opd_bnd {x : It} (hr : ∀ n ∈ x.ns, rng n) : (opdP x).s.length ≤ 24 * (opdP x).tk := by
  unfold opdP
  split
  · exact Nat.zero_le _
  split
  · split
    · exact Nat.zero_le _
    · rename_i h
      have hn : nameB x.nm = true := by
        cases h' : nameB x.nm with
        | true => rfl
        | false => exact absurd (.inr h') h
      have := nameB_le hn
      show x.nm.length ≤ 24 * 1
      omega
  · split
    · exact Nat.zero_le _
    · exact numsT_le hr
theorem opd_tk (x : It) : (opdP x).tk ≤ 256 := by
  unfold opdP
  split
  · exact Nat.zero_le _
  split
  · split
    · exact Nat.zero_le _
    · show 1 ≤ 256; decide
  · split
    · exact Nat.zero_le _
    · rename_i h
      show x.ns.length ≤ 256
      omega
theorem brk_bnd {p : Pt} (h : p.s.length ≤ 24 * p.tk) : (brkP p).s.length ≤ 24 * (brkP p).tk := by
  unfold brkP
  split
  · exact h
  · show (40 :: (p.s ++ [41])).length ≤ 24 * (p.tk + 2)
    simp only [List.length_cons, List.length_append, List.length_nil]
    omega
theorem step_bnd {st st' : List Pt} {x : It} (h : stepP st x = some st') (hb : ptB st) (hr : ∀ n ∈ x.ns, rng n) : ptB st' := by
  have hv := verbW_le x.fn (x.how != 3)
  have hm := markW_le x.how
  unfold stepP at h
  split at h
  · split at h
    · injection h with h
      subst h
      intro p hp
      rcases List.mem_cons.1 hp with rfl | hp
      · exact opd_bnd hr
      · exact hb p hp
    · cases h
  split at h
  · cases h
  split at h
  · split at h
    · rename_i q p r
      injection h with h
      subst h
      intro y hy
      rcases List.mem_cons.1 hy with rfl | hy
      · have h1 := hb q (List.mem_cons_self ..)
        have h2 := brk_bnd (hb p (List.mem_cons_of_mem _ (List.mem_cons_self ..)))
        show ((brkP p).s ++ 32 :: (verbW x.fn (x.how != 3) ++ markW x.how ++ 32 :: q.s)).length ≤ 24 * ((brkP p).tk + (if x.how = 3 ∨ x.how = 4 then 1 else 2) + q.tk)
        simp only [List.length_append, List.length_cons]
        split <;> omega
      · exact hb y (List.mem_cons_of_mem _ (List.mem_cons_of_mem _ hy))
    · cases h
  · split at h
    · rename_i p r
      injection h with h
      subst h
      intro y hy
      rcases List.mem_cons.1 hy with rfl | hy
      · have h1 := hb p (List.mem_cons_self ..)
        show (verbW x.fn (x.how != 3) ++ markW x.how ++ 32 :: p.s).length ≤ 24 * ((if x.how = 3 ∨ x.how = 4 then 1 else 2) + p.tk)
        simp only [List.length_append, List.length_cons]
        split <;> omega
      · exact hb y (List.mem_cons_of_mem _ hy)
    · cases h
theorem step_sum {st st' : List Pt} {x : It} (h : stepP st x = some st') : sumK st' ≤ sumK st + 256 := by
  unfold stepP at h
  split at h
  · split at h
    · injection h with h
      subst h
      have := opd_tk x
      simp only [sumK]
      omega
    · cases h
  split at h
  · cases h
  split at h
  · split at h
    · rename_i q p r
      injection h with h
      subst h
      have : (brkP p).tk ≤ p.tk + 2 := by unfold brkP; split <;> simp
      simp only [sumK, dyP]
      split <;> omega
    · cases h
  · split at h
    · injection h with h
      subst h
      simp only [sumK, monP]
      split <;> omega
    · cases h
theorem run_bnd : ∀ {l : List It} {st st' : List Pt}, runP l st = some st' → ptB st → (∀ x ∈ l, ∀ n ∈ x.ns, rng n) → ptB st'
  | [], st, st', h, hb, _ => by simp only [runP, Option.some.injEq] at h; subst h; exact hb
  | x :: r, st, st', h, hb, hr => by
    have h : (stepP st x).bind (runP r) = some st' := h
    cases hs : stepP st x with
    | none => rw [hs] at h; cases h
    | some s =>
      rw [hs] at h
      exact run_bnd (l := r) h (step_bnd hs hb (hr x (List.mem_cons_self ..))) fun y hy => hr y (List.mem_cons_of_mem _ hy)
theorem exprP_len {l : List It} {k : Nat} {s : List UInt8} (h : exprP l k = some s) (hr : ∀ x ∈ l, ∀ n ∈ x.ns, rng n) : s.length ≤ 6144 := by
  unfold exprP at h
  split at h
  · cases h
  · split at h
    · rename_i p hp
      split at h
      · cases h
      · injection h with h
        subst h
        have := run_bnd hp (fun p hp => by cases hp) hr p (List.mem_cons_self ..)
        omega
    · cases h
/-- A line's text, the last one or another. -/
def lnP (m : Ln) (last : Bool) : Option (List UInt8) :=
  if last then (if m.nm = [] then (exprP m.its 1).map fun t => [111, 117, 116, 32] ++ t else none)
  else if nameB m.nm = false then none else (exprP m.its 2).map fun t => m.nm ++ [58, 32] ++ t
theorem lnP_len {m : Ln} {last : Bool} {s : List UInt8} (h : lnP m last = some s) (hr : ∀ x ∈ m.its, ∀ n ∈ x.ns, rng n) : s.length ≤ 6170 := by
  unfold lnP at h
  split at h
  · split at h
    · obtain ⟨t, ht, rfl⟩ := Option.map_eq_some_iff.1 h
      have := exprP_len ht hr
      simp only [List.length_append, List.length_cons, List.length_nil]
      omega
    · cases h
  · split at h
    · cases h
    · rename_i hn
      obtain ⟨t, ht, rfl⟩ := Option.map_eq_some_iff.1 h
      have := exprP_len ht hr
      have := nameB_le (by simpa using hn)
      simp only [List.length_append, List.length_cons, List.length_nil]
      omega
/-- A program's lines, each with its end. -/
theorem lnsP_cons (m : Ln) (r : List Ln) : lnsP (m :: r) = if r = [] then (lnP m true).map fun t => t ++ [10] else (lnP m false).bind fun t => (lnsP r).map fun u => t ++ 10 :: u := by
  cases r with
  | nil =>
    rw [if_pos rfl]
    show (if m.nm = [] then _ else none) = _
    unfold lnP
    rw [if_pos rfl]
    split
    · cases exprP m.its 1 <;> simp
    · rfl
  | cons y r =>
    rw [if_neg (by simp)]
    show (if nameB m.nm = false then none else _) = _
    have e : lnP m false = if nameB m.nm = false then none else (exprP m.its 2).map fun t => m.nm ++ [58, 32] ++ t := rfl
    rw [e]
    by_cases hn : nameB m.nm = false
    · rw [if_pos hn, if_pos hn]; first | done | rfl
    · rw [if_neg hn, if_neg hn]
      cases exprP m.its 2 with
      | none => rfl
      | some t =>
        simp only [Option.bind_some, Option.map_some]
def sideP (d : List UInt8 × Int) : Option (List UInt8) := if d.1 = [] then some (digs d.2) else if d.2 = 0 ∧ nameB d.1 = true then some d.1 else none
theorem sidesP_cons (d : List UInt8 × Int) (r : List (List UInt8 × Int)) : sidesP (d :: r) = (sideP d).bind fun s => (sidesP r).map fun t => 32 :: (s ++ t) := by
  show (if d.1 = [] then _ else if d.2 = 0 ∧ nameB d.1 = true then _ else none) = _
  unfold sideP
  by_cases h1 : d.1 = []
  · rw [if_pos h1, if_pos h1]; rfl
  · rw [if_neg h1, if_neg h1]
    by_cases h2 : d.2 = 0 ∧ nameB d.1 = true
    · rw [if_pos h2, if_pos h2]; rfl
    · rw [if_neg h2, if_neg h2]; rfl
theorem sideP_len {d : List UInt8 × Int} {s : List UInt8} (h : sideP d = some s) (hr : rng d.2) : s.length ≤ 21 := by
  unfold sideP at h
  split at h
  · injection h with h; subst h; exact digs_len hr.1 hr.2
  · split at h
    · rename_i hn
      injection h with h; subst h
      have := nameB_le hn.2
      omega
    · cases h
theorem sidesP_app : ∀ (l : List (List UInt8 × Int)) (m : List (List UInt8 × Int)), sidesP (l ++ m) = (sidesP l).bind fun a => (sidesP m).map fun b => a ++ b
  | [], m => by
    show sidesP m = (some []).bind fun a => (sidesP m).map fun b => a ++ b
    cases sidesP m <;> rfl
  | d :: l, m => by
    rw [List.cons_append, sidesP_cons, sidesP_cons, sidesP_app l m]
    cases sideP d with
    | none => rfl
    | some s =>
      cases sidesP l with
      | none => rfl
      | some a =>
        cases sidesP m with
        | none => rfl
        | some b => simp
theorem sidesP_one (d : List UInt8 × Int) : sidesP [d] = (sideP d).map fun s => 32 :: s := by
  rw [sidesP_cons]
  cases sideP d with
  | none => rfl
  | some s => show some (32 :: (s ++ [])) = some (32 :: s); rw [List.append_nil]
theorem sd_take {l : List (List UInt8 × Int)} {j : Nat} (h : j < l.length) : l.take (j + 1) = l.take j ++ [l.getD j default] := by
  rw [List.take_add_one, List.getElem?_eq_getElem h, List.getD_eq_getElem?_getD, List.getElem?_eq_getElem h]; rfl
theorem sides_stop {l : List (List UInt8 × Int)} {j : Nat} (h : j < l.length) (hs : sideP (l.getD j default) = none) : sidesP l = none := by
  rw [← List.take_append_drop (j + 1) l, sd_take h, List.append_assoc, sidesP_app]
  rw [sidesP_app, sidesP_one, hs]
  cases sidesP (l.take j) <;> rfl
theorem sides_go {l : List (List UInt8 × Int)} {j : Nat} (h : j < l.length) {a s : List UInt8} (ha : sidesP (l.take j) = some a) (hs : sideP (l.getD j default) = some s) : sidesP (l.take (j + 1)) = some (a ++ 32 :: s) := by
  rw [sd_take h, sidesP_app, sidesP_one, ha, hs]; rfl
theorem insP_app : ∀ (l m : List Inp), insP (l ++ m) = (insP l).bind fun a => (insP m).map fun b => a ++ b
  | [], m => by
    show insP m = (some []).bind fun a => (insP m).map fun b => a ++ b
    cases insP m <;> rfl
  | x :: l, m => by
    show ((inputP x).bind fun t => (insP (l ++ m)).map fun u => t ++ 10 :: u) = ((inputP x).bind fun t => (insP l).map fun u => t ++ 10 :: u).bind fun a => (insP m).map fun b => a ++ b
    rw [insP_app l m]
    cases inputP x with
    | none => rfl
    | some s =>
      cases insP l with
      | none => rfl
      | some a =>
        cases insP m with
        | none => rfl
        | some b => simp
theorem insP_one (x : Inp) : insP [x] = (inputP x).map fun s => s ++ [10] := by
  show ((inputP x).bind fun t => (insP []).map fun u => t ++ 10 :: u) = _
  cases inputP x <;> rfl
theorem in_take {l : List Inp} {j : Nat} (h : j < l.length) : l.take (j + 1) = l.take j ++ [l.getD j default] := by
  rw [List.take_add_one, List.getElem?_eq_getElem h, List.getD_eq_getElem?_getD, List.getElem?_eq_getElem h]; rfl
theorem ins_stop {l : List Inp} {j : Nat} (h : j < l.length) (hs : inputP (l.getD j default) = none) : insP l = none := by
  rw [← List.take_append_drop (j + 1) l, in_take h, List.append_assoc, insP_app]
  rw [insP_app, insP_one, hs]
  cases insP (l.take j) <;> rfl
theorem ins_go {l : List Inp} {j : Nat} (h : j < l.length) {a s : List UInt8} (ha : insP (l.take j) = some a) (hs : inputP (l.getD j default) = some s) : insP (l.take (j + 1)) = some (a ++ (s ++ [10])) := by
  rw [in_take h, insP_app, insP_one, ha, hs]; rfl
/-- Lines that are not the last one. -/
def lnsQ : List Ln → Option (List UInt8)
  | [] => some []
  | m :: r => (lnP m false).bind fun t => (lnsQ r).map fun u => t ++ 10 :: u
theorem lnsQ_app : ∀ (l m : List Ln), lnsQ (l ++ m) = (lnsQ l).bind fun a => (lnsQ m).map fun b => a ++ b
  | [], m => by
    show lnsQ m = (some []).bind fun a => (lnsQ m).map fun b => a ++ b
    cases lnsQ m <;> rfl
  | x :: l, m => by
    show ((lnP x false).bind fun t => (lnsQ (l ++ m)).map fun u => t ++ 10 :: u) = ((lnP x false).bind fun t => (lnsQ l).map fun u => t ++ 10 :: u).bind fun a => (lnsQ m).map fun b => a ++ b
    rw [lnsQ_app l m]
    cases lnP x false with
    | none => rfl
    | some s =>
      cases lnsQ l with
      | none => rfl
      | some a =>
        cases lnsQ m with
        | none => rfl
        | some b => simp
theorem lnsP_app : ∀ (l m : List Ln), m ≠ [] → lnsP (l ++ m) = (lnsQ l).bind fun a => (lnsP m).map fun b => a ++ b
  | [], m, _ => by
    show lnsP m = (some []).bind fun a => (lnsP m).map fun b => a ++ b
    cases lnsP m <;> rfl
  | x :: l, m, hm => by
    rw [List.cons_append, lnsP_cons, if_neg (by simp [hm]), lnsP_app l m hm]
    show _ = ((lnP x false).bind fun t => (lnsQ l).map fun u => t ++ 10 :: u).bind fun a => (lnsP m).map fun b => a ++ b
    cases lnP x false with
    | none => rfl
    | some s =>
      cases lnsQ l with
      | none => rfl
      | some a =>
        cases lnsP m with
        | none => rfl
        | some b => simp
theorem lnsP_one (m : Ln) : lnsP [m] = (lnP m true).map fun t => t ++ [10] := by rw [lnsP_cons, if_pos rfl]
theorem lnsQ_one (m : Ln) : lnsQ [m] = (lnP m false).map fun t => t ++ [10] := by
  show ((lnP m false).bind fun t => (lnsQ []).map fun u => t ++ 10 :: u) = _
  cases lnP m false <;> rfl
theorem ln_take {l : List Ln} {j : Nat} (h : j < l.length) : l.take (j + 1) = l.take j ++ [l.getD j default] := by
  rw [List.take_add_one, List.getElem?_eq_getElem h, List.getD_eq_getElem?_getD, List.getElem?_eq_getElem h]; rfl
theorem ln_drop {l : List Ln} {j : Nat} (h : j < l.length) : l.drop j = l.getD j default :: l.drop (j + 1) := by
  rw [List.drop_eq_getElem_cons h, List.getD_eq_getElem?_getD, List.getElem?_eq_getElem h]; rfl
/-- What the first lines make. -/
def lnsR (l : List Ln) (j : Nat) : Option (List UInt8) := if j < l.length then lnsQ (l.take j) else lnsP l
theorem lns_stop {l : List Ln} {j : Nat} (h : j < l.length) (hs : lnP (l.getD j default) (decide (j + 1 = l.length)) = none) : lnsP l = none := by
  have hne : l.drop j ≠ [] := by rw [ln_drop h]; simp
  rw [← List.take_append_drop j l, lnsP_app _ _ hne, ln_drop h, lnsP_cons]
  by_cases hl : j + 1 = l.length
  · rw [decide_eq_true hl] at hs
    rw [if_pos (by rw [List.drop_eq_nil_iff]; omega), hs]
    cases lnsQ (l.take j) <;> rfl
  · rw [decide_eq_false hl] at hs
    rw [if_neg (by rw [List.drop_eq_nil_iff]; omega), hs]
    cases lnsQ (l.take j) <;> rfl
theorem lns_go {l : List Ln} {j : Nat} (h : j < l.length) {a s : List UInt8} (ha : lnsR l j = some a) (hs : lnP (l.getD j default) (decide (j + 1 = l.length)) = some s) : lnsR l (j + 1) = some (a ++ (s ++ [10])) := by
  unfold lnsR at ha ⊢
  rw [if_pos h] at ha
  by_cases hl : j + 1 = l.length
  · rw [decide_eq_true hl] at hs
    rw [if_neg (by omega)]
    have hne : l.drop j ≠ [] := by rw [ln_drop h]; simp
    have hd : l.drop (j + 1) = [] := by rw [List.drop_eq_nil_iff]; omega
    rw [← List.take_append_drop j l, lnsP_app _ _ hne, ln_drop h, hd, lnsP_one, hs, ha]; rfl
  · rw [decide_eq_false hl] at hs
    rw [if_pos (by omega), ln_take h, lnsQ_app, lnsQ_one, hs, ha]; rfl
theorem lns_all {l : List Ln} {a : List UInt8} (h : lnsR l l.length = some a) : lnsP l = some a := by
  unfold lnsR at h; rwa [if_neg (by omega)] at h
theorem inputP_len {m : Inp} {s : List UInt8} (h : inputP m = some s) (hr : ∀ d ∈ m.sd, rng d.2) : s.length ≤ 200 := by
  unfold inputP at h
  split at h
  · cases h
  · rename_i hn
    obtain ⟨t, ht, rfl⟩ := Option.map_eq_some_iff.1 h
    have h1 : nameB m.nm = true := by
      cases h' : nameB m.nm with
      | true => rfl
      | false => exact absurd (.inl h') hn
    have h2 : m.sd.length ≤ 4 := Nat.le_of_not_lt fun h => hn (.inr h)
    have h3 := nameB_le h1
    have : ∀ (l : List (List UInt8 × Int)) (t : List UInt8), (∀ d ∈ l, rng d.2) → sidesP l = some t → t.length ≤ 22 * l.length := fun l => by
      induction l with
      | nil => intro t _ ht; have : some [] = some t := ht; injection this with this; subst this; exact Nat.zero_le _
      | cons d r ih =>
        intro t hr ht
        rw [sidesP_cons] at ht
        cases hs : sideP d with
        | none => rw [hs] at ht; cases ht
        | some s =>
          rw [hs, Option.bind_some] at ht
          obtain ⟨u, hu, rfl⟩ := Option.map_eq_some_iff.1 ht
          have h1 := sideP_len hs (hr d (List.mem_cons_self ..))
          have h2 := ih u (fun d hd => hr d (List.mem_cons_of_mem _ hd)) hu
          simp only [List.length_cons, List.length_append]
          omega
    have h4 := this m.sd t hr ht
    simp only [List.length_append, List.length_cons, List.length_nil]
    omega
end Go.Proofs.YtbapgdhcbfpdoaaGreatDoor
