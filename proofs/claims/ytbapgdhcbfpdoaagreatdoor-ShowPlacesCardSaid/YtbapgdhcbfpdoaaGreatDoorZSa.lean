/- Layer 4, put together: ShwM, ShwA, ShwB, ShwC, ShwD, ShwE, ShwF. -/
import Derived.Test.YtbapgdhcbfpdoaaGreatDoorZPq
import Derived.Test.YtbapgdhcbfpdoaaGreatDoorZPg
import Derived.Test.YtbapgdhcbfpdoaaGreatDoorZLd
/- Programs as texts, the document's way, over plain lists. -/
namespace Go.Proofs.YtbapgdhcbfpdoaaGreatDoor
open Go.RowKit
/-- A value's text, whether it is an operand, its tokens, its brackets that are open at one time. -/
structure Pt where
  s : List UInt8
  pl : Bool
  tk : Nat
  ne : Nat
deriving DecidableEq, Inhabited
def wordsL : List (List UInt8) := [[43], [45], [42], [37], [124], [109, 105, 110], [109, 97, 120], [61], [126], [60], [60, 61], [62, 61], [62], [97, 110, 100], [111, 114], [112, 111, 119], [114, 104, 111], [116, 97, 107, 101], [100, 114, 111, 112], [99, 97, 116], [105, 111, 116, 97], [115, 104, 97, 112, 101], [114, 97, 118, 101, 108], [114, 101, 118], [116, 117, 114, 110]]
def verbIn : List (List UInt8) → Int → Bool → List UInt8
  | [], _, _ => []
  | w :: r, f, two => if (verbR w two != 0) && (verbR w two == f) then w else verbIn r f two
/-- A verb's text; none: empty. -/
def verbW (f : Int) (two : Bool) : List UInt8 := verbIn wordsL f two
def numsT : List Int → List UInt8
  | [] => []
  | [n] => digs n
  | n :: m :: r => digs n ++ 32 :: numsT (m :: r)
def opdP (x : It) : Pt :=
  if x.fn ≠ 0 then ⟨[], false, 0, 0⟩
  else if x.how = 2 then (if 0 < x.ns.length ∨ nameB x.nm = false then ⟨[], false, 0, 0⟩ else ⟨x.nm, true, 1, 0⟩)
  else if x.nm ≠ [] ∨ 256 < x.ns.length then ⟨[], false, 0, 0⟩ else ⟨numsT x.ns, true, x.ns.length, 0⟩
def brkP (p : Pt) : Pt := if p.pl then p else ⟨40 :: (p.s ++ [41]), false, p.tk + 2, p.ne + 1⟩
def markW (how : Int) : List UInt8 := if how = 5 then [47] else if how = 6 then [92] else if how = 7 then [46] else []
def twoI (x : It) : Bool := decide (x.how = 4 ∨ x.how = 7)
/-- Is an item that is no operand well made, places and values apart? -/
def okI (x : It) : Bool := decide (3 ≤ x.how ∧ x.how ≤ 7 ∧ x.ns = [] ∧ x.nm = [] ∧ verbW x.fn (x.how != 3) ≠ []) && ((x.how == 3) || (x.how == 4) || tk2 x.fn)
def monP (x : It) (p : Pt) : Pt := ⟨verbW x.fn (x.how != 3) ++ markW x.how ++ 32 :: p.s, false, (if x.how = 3 ∨ x.how = 4 then 1 else 2) + p.tk, p.ne⟩
def dyP (x : It) (p q : Pt) : Pt := ⟨(brkP p).s ++ 32 :: (verbW x.fn (x.how != 3) ++ markW x.how ++ 32 :: q.s), false, (brkP p).tk + (if x.how = 3 ∨ x.how = 4 then 1 else 2) + q.tk, max (brkP p).ne q.ne⟩
/-- The values' texts, the last one first, behind an item. -/
def stepP (l : List Pt) (x : It) : Option (List Pt) :=
  if x.how = 1 ∨ x.how = 2 then (if 0 < (opdP x).tk then some (opdP x :: l) else none)
  else if okI x = false then none
  else if twoI x then (match l with
    | q :: p :: r => some (dyP x p q :: r)
    | _ => none)
  else match l with
    | p :: r => some (monP x p :: r)
    | [] => none
def runP : List It → List Pt → Option (List Pt)
  | [], l => some l
  | x :: r, l => (stepP l x).bind (runP r)
def exprP (l : List It) (ahead : Nat) : Option (List UInt8) :=
  if 256 < l.length then none else match runP l [] with
    | some [p] => if 256 < p.tk + ahead ∨ 32 < p.ne then none else some p.s
    | _ => none
def sidesP : List (List UInt8 × Int) → Option (List UInt8)
  | [] => some []
  | d :: r => if d.1 = [] then (sidesP r).map fun t => 32 :: (digs d.2 ++ t)
    else if d.2 = 0 ∧ nameB d.1 = true then (sidesP r).map fun t => 32 :: (d.1 ++ t)
    else none
def inputP (x : Inp) : Option (List UInt8) :=
  if nameB x.nm = false ∨ 4 < x.sd.length then none else (sidesP x.sd).map fun t => [105, 110, 32] ++ x.nm ++ t
def insP : List Inp → Option (List UInt8)
  | [] => some []
  | x :: r => (inputP x).bind fun t => (insP r).map fun u => t ++ 10 :: u
def lnsP : List Ln → Option (List UInt8)
  | [] => none
  | [m] => if m.nm = [] then (exprP m.its 1).map fun t => [111, 117, 116, 32] ++ t ++ [10] else none
  | m :: r => if nameB m.nm = false then none else (exprP m.its 2).bind fun t => (lnsP r).map fun u => m.nm ++ [58, 32] ++ t ++ 10 :: u
/-- A program's text, if it may be. -/
def textP (p : Pg) : Option (List UInt8) := if 64 < p.ins.length + p.lns.length then none else (insP p.ins).bind fun t => (lnsP p.lns).map fun u => t ++ u
def rightP (p : Pg) : Bool := (textP p).isSome
def showP (p : Pg) : List UInt8 × Int := match textP p with
  | none => ([], 50)
  | some s => if 65536 < s.length then ([], 30) else (s, 0)

/-! ### segments -/
def wtok (w : List UInt8) : Tk := ⟨if wordB w then 1 else 3, 0, w, 0⟩
/-- A verb's tokens. -/
def vtok (x : It) : List Tk := wtok (verbW x.fn (x.how != 3)) :: (if x.how = 3 ∨ x.how = 4 then [] else [⟨3, 0, markW x.how, 0⟩])
def btok (p : Pt) (T : List Tk) : List Tk := if p.pl then T else ⟨3, 0, [40], 0⟩ :: (T ++ [⟨3, 0, [41], 0⟩])
/-- Items that leave one value, with its text and its tokens. -/
inductive Seg : List It → Pt → List Tk → Prop
  | num (x : It) (h1 : x.how = 1) (h2 : 0 < (opdP x).tk) : Seg [x] (opdP x) (x.ns.map fun n => ⟨2, 0, [], n⟩)
  | nam (x : It) (h1 : x.how = 2) (h2 : 0 < (opdP x).tk) : Seg [x] (opdP x) [⟨1, 0, x.nm, 0⟩]
  | mon (x : It) (l : List It) (p : Pt) (T : List Tk) (h : Seg l p T) (h1 : okI x = true) (h2 : twoI x = false) : Seg (l ++ [x]) (monP x p) (vtok x ++ T)
  | dy (x : It) (l m : List It) (p q : Pt) (T U : List Tk) (h : Seg l p T) (g : Seg m q U) (h1 : okI x = true) (h2 : twoI x = true) : Seg (l ++ m ++ [x]) (dyP x p q) (btok p T ++ vtok x ++ U)
theorem runP_app : ∀ (l m : List It) (st : List Pt), runP (l ++ m) st = (runP l st).bind (runP m)
  | [], m, st => rfl
  | x :: l, m, st => by
    show (stepP st x).bind (runP (l ++ m)) = ((stepP st x).bind (runP l)).bind (runP m)
    cases stepP st x with
    | none => rfl
    | some s => exact runP_app l m s
theorem seg_run {l : List It} {p : Pt} {T : List Tk} (h : Seg l p T) : ∀ st, runP l st = some (p :: st) := by
  induction h with
  | num x h1 h2 => intro st; simp [runP, stepP, h1, h2]
  | nam x h1 h2 => intro st; simp [runP, stepP, h1, h2]
  | mon x l p T _ h1 h2 ih =>
    intro st
    rw [runP_app, ih st]
    have hh : ¬ (x.how = 1 ∨ x.how = 2) := by unfold okI at h1; simp at h1; omega
    simp [runP, stepP, hh, h1, h2]
  | dy x l m p q T U _ _ h1 h2 ih ig =>
    intro st
    rw [runP_app, runP_app, ih st]
    simp only [Option.bind_some]
    rw [ig]
    have hh : ¬ (x.how = 1 ∨ x.how = 2) := by unfold okI at h1; simp at h1; omega
    simp [runP, stepP, hh, h1, h2]
/-- What a run leaves: a segment for each value. -/
inductive Segs : List It → List Pt → Prop
  | nil : Segs [] []
  | snoc (l : List It) (st : List Pt) (m : List It) (p : Pt) (T : List Tk) (h : Segs l st) (g : Seg m p T) : Segs (l ++ m) (p :: st)
theorem segs_step {l : List It} {st st' : List Pt} {x : It} (h : Segs l st) (hs : stepP st x = some st') : Segs (l ++ [x]) st' := by
  unfold stepP at hs
  split at hs
  · rename_i hh
    split at hs
    · rename_i hk
      injection hs with hs
      subst hs
      rcases hh with hh | hh
      · exact .snoc l st [x] _ _ h (.num x hh hk)
      · exact .snoc l st [x] _ _ h (.nam x hh hk)
    · cases hs
  split at hs
  · cases hs
  rename_i hok
  have hok : okI x = true := by simpa using hok
  split at hs
  · rename_i h2
    cases h with
    | nil => cases hs
    | snoc l0 st0 m p T h0 g =>
      cases h0 with
      | nil => cases hs
      | snoc l1 st1 m1 p1 T1 h1 g1 =>
        simp only [Option.some.injEq] at hs
        subst hs
        have := Segs.snoc l1 st1 _ _ _ h1 (.dy x m1 m p1 p T1 T g1 g hok h2)
        simpa [List.append_assoc] using this
  · rename_i h2
    have h2 : twoI x = false := by simpa using h2
    cases h with
    | nil => cases hs
    | snoc l0 st0 m p T h0 g =>
      simp only [Option.some.injEq] at hs
      subst hs
      have := Segs.snoc l0 st0 _ _ _ h0 (.mon x m p T g hok h2)
      simpa [List.append_assoc] using this
theorem segs_run : ∀ (l : List It) (l0 : List It) (st st' : List Pt), Segs l0 st → runP l st = some st' → Segs (l0 ++ l) st'
  | [], l0, st, st', h, hr => by
    simp only [runP, Option.some.injEq] at hr
    subst hr
    rwa [List.append_nil]
  | x :: l, l0, st, st', h, hr => by
    have hr : (stepP st x).bind (runP l) = some st' := hr
    cases hs : stepP st x with
    | none => rw [hs] at hr; cases hr
    | some s =>
      rw [hs] at hr
      have := segs_run l (l0 ++ [x]) s st' (segs_step h hs) hr
      simpa using this
theorem run_seg {l : List It} {p : Pt} (h : runP l [] = some [p]) : ∃ T, Seg l p T := by
  have := segs_run l [] [] [p] .nil h
  rw [List.nil_append] at this
  cases this with
  | snoc l0 st m p T h0 g =>
    cases h0
    exact ⟨T, g⟩
theorem exprP_seg {l : List It} {k : Nat} {s : List UInt8} (h : exprP l k = some s) : ∃ p T, Seg l p T ∧ l.length ≤ 256 ∧ p.tk + k ≤ 256 ∧ p.ne ≤ 32 ∧ s = p.s := by
  unfold exprP at h
  split at h
  · cases h
  · rename_i hl
    split at h
    · rename_i p hp
      split at h
      · cases h
      · rename_i hc
        injection h with h
        obtain ⟨T, hT⟩ := run_seg hp
        exact ⟨p, T, hT, by omega, by omega, by omega, h.symm⟩
    · cases h
theorem seg_exprP {l : List It} {p : Pt} {T : List Tk} (h : Seg l p T) {k : Nat} (hl : l.length ≤ 256) (ht : p.tk + k ≤ 256) (hn : p.ne ≤ 32) : exprP l k = some p.s := by
  unfold exprP
  rw [if_neg (by omega), seg_run h []]
  simp only
  rw [if_neg (by omega)]
end Go.Proofs.YtbapgdhcbfpdoaaGreatDoor
/- The text of a segment is cut into its tokens. Pure. -/
namespace Go.Proofs.YtbapgdhcbfpdoaaGreatDoor
open Go.RowKit
/-- A text without a note or a line's end is cut into these tokens, places apart. -/
def LX (s : List UInt8) (T : List Tk) : Prop := (∀ c ∈ s, c.toNat ≠ 35 ∧ c.toNat ≠ 10) ∧ ∃ ts, lexL s 0 = .ok ts ∧ ts.map zT = T
theorem LX.nil : LX [] [] := ⟨fun c h => (by cases h), [], lex_nil 0, rfl⟩
theorem LX.at {s : List UInt8} {T : List Tk} (h : LX s T) (a : Int) : ∃ ts, lexL s a = .ok ts ∧ ts.map zT = T := by
  obtain ⟨_, ts, h1, h2⟩ := h
  exact ⟨ts.map (mv a), lex_at4 a h1, by rw [mv_z, h2]⟩
theorem LX.cat {s t : List UInt8} {S T : List Tk} (h : LX s S) (g : LX t T) (hd : hard t) : LX (s ++ t) (S ++ T) := by
  obtain ⟨us, g1, g2⟩ := g.at (0 + s.length)
  obtain ⟨h0, ts, h1, h2⟩ := h
  refine ⟨fun c hc => (List.mem_append.1 hc).elim (h0 c) (g.1 c), ts ++ us, ?_, by rw [List.map_append, h2, g2]⟩
  rw [lex_beh s.length s 0 t (Nat.le_refl _) hd (.inr fun c hc => (h0 c hc).1), h1, g1]
  rfl
theorem LX.bl {t : List UInt8} {T : List Tk} (h : LX t T) : LX (32 :: t) T := by
  obtain ⟨us, g1, g2⟩ := h.at (0 + 1)
  refine ⟨fun c hc => ?_, us, by rw [lex_bl, g1], g2⟩
  rcases List.mem_cons.1 hc with rfl | hc
  · decide
  · exact h.1 c hc
theorem LX.op {t : List UInt8} {T : List Tk} (h : LX t T) : LX (40 :: t) (⟨3, 0, [40], 0⟩ :: T) := by
  obtain ⟨us, g1, g2⟩ := h.at (0 + 1)
  refine ⟨fun c hc => ?_, ⟨3, 0, [40], 0⟩ :: us, by rw [lex_sgn piece_open, g1]; rfl, by rw [List.map_cons, g2]; rfl⟩
  rcases List.mem_cons.1 hc with rfl | hc
  · decide
  · exact h.1 c hc
theorem lex_one {b : UInt8} {r : List UInt8} {kd v : Int} {w : List UInt8} (h : piece b r = .tok kd w v r.length) (a : Int) : lexL (b :: r) a = .ok [⟨kd, a, w, v⟩] := by
  rw [lex_tok h, List.drop_length, lex_nil]; rfl
theorem LX.one {b : UInt8} {r : List UInt8} {kd v : Int} {w : List UInt8} (h : piece b r = .tok kd w v r.length) (hc : ∀ c ∈ b :: r, c.toNat ≠ 35 ∧ c.toNat ≠ 10) : LX (b :: r) [⟨kd, 0, w, v⟩] := ⟨hc, _, lex_one h 0, rfl⟩
theorem hard_sg {b : UInt8} (h1 : digB b = false) (h2 : alnB b = false) (h3 : b ≠ 61) (x : List UInt8) : hard (b :: x) := ⟨fun c hc => by simp at hc; subst hc; exact h1, fun c hc => by simp at hc; subst hc; exact h2, by simpa using h3⟩
theorem lx_word {w : List UInt8} (h : w ∈ wordsL) : LX w [wtok w] := by
  simp only [wordsL, List.mem_cons, List.not_mem_nil, or_false] at h
  rcases h with rfl | rfl | rfl | rfl | rfl | rfl | rfl | rfl | rfl | rfl | rfl | rfl | rfl | rfl | rfl | rfl | rfl | rfl | rfl | rfl | rfl | rfl | rfl | rfl | rfl <;> exact LX.one rfl (by decide)
theorem lx_mark (how : Int) (h : ¬ (how = 3 ∨ how = 4)) (h2 : 3 ≤ how ∧ how ≤ 7) : LX (markW how) [⟨3, 0, markW how, 0⟩] ∧ ∀ x, hard (markW how ++ x) := by
  unfold markW
  by_cases h5 : how = 5
  · rw [if_pos h5]; exact ⟨LX.one rfl (by decide), fun x => hard_sg (by decide) (by decide) (by decide) _⟩
  rw [if_neg h5]
  by_cases h6 : how = 6
  · rw [if_pos h6]; exact ⟨LX.one rfl (by decide), fun x => hard_sg (by decide) (by decide) (by decide) _⟩
  rw [if_neg h6, if_pos (by omega)]
  exact ⟨LX.one rfl (by decide), fun x => hard_sg (by decide) (by decide) (by decide) _⟩
theorem let_no {b : UInt8} (h : letB b = true) : blB b = false ∧ b.toNat ≠ 35 ∧ b.toNat ≠ 10 := by
  unfold letB at h
  simp at h
  unfold blB
  simp
  omega
theorem aln_no {b : UInt8} (h : alnB b = true) : b.toNat ≠ 35 ∧ b.toNat ≠ 10 := by
  unfold alnB letB digB at h
  simp at h
  omega
theorem lx_name {w : List UInt8} (h : wordB w = true) : LX w [⟨1, 0, w, 0⟩] := by
  cases w with
  | nil => cases h
  | cons b r =>
    have h : (letB b && decide (run alnB r = r.length) && decide (r.length ≤ 15)) = true := h
    simp only [Bool.and_eq_true, decide_eq_true_eq] at h
    obtain ⟨⟨h1, h2⟩, h3⟩ := h
    obtain ⟨n1, n2, n3⟩ := let_no h1
    refine LX.one ?_ ?_
    · unfold piece
      rw [if_neg (by rw [n1]; decide), if_neg n2, if_neg n3, if_pos h1, h2, if_neg (by omega), List.take_length]
    · intro c hc
      rcases List.mem_cons.1 hc with rfl | hc
      · exact ⟨n2, n3⟩
      · have := run_all alnB r c (by rw [h2, List.take_length]; exact hc)
        exact aln_no this
theorem mag_snoc (l : List UInt8) (acc : Nat) (c : UInt8) : mag acc (l ++ [c]) = mag acc l * 10 + (c.toNat - 48) := by unfold mag; rw [List.foldl_append]; rfl
theorem mag_dec : ∀ (n u : Nat), u ≤ n → mag 0 (Lib.decDigits u) = u := by
  intro n
  induction n with
  | zero =>
    intro u hu
    obtain rfl : u = 0 := by omega
    rw [dec_last (by omega)]; rfl
  | succ n ih =>
    intro u hu
    by_cases h : 9 < u
    · rw [dec_step h, mag_snoc, ih (u / 10) (by omega)]
      have : (UInt8.ofNat (48 + u % 10)).toNat = 48 + u % 10 := by simp; omega
      rw [this]; omega
    · rw [dec_last h]
      show mag 0 ([] ++ [_]) = _
      rw [mag_snoc, mag_nil]
      have : (UInt8.ofNat (48 + u)).toNat = 48 + u := by simp; omega
      rw [this]; omega
theorem dig_no {b : UInt8} (h : digB b = true) : blB b = false ∧ b.toNat ≠ 35 ∧ b.toNat ≠ 10 ∧ letB b = false := by
  unfold digB at h
  simp at h
  unfold blB letB
  simp
  omega
def rng (n : Int) : Prop := -9223372036854775808 ≤ n ∧ n ≤ 9223372036854775807
theorem lx_num {n : Int} (h : rng n) : LX (digs n) [⟨2, 0, [], n⟩] := by
  have hd := dec_dig n.natAbs
  have hm := mag_dec n.natAbs n.natAbs (Nat.le_refl _)
  have hfull : ∀ l : List UInt8, (∀ c ∈ l, digB c = true) → run digB l = l.length := fun l hl => run_full digB l hl
  unfold digs
  by_cases h0 : n < 0
  · rw [if_pos h0]
    refine LX.one ?_ ?_
    · have hne := dec_ne n.natAbs
      have hp : 0 < run digB (Lib.decDigits n.natAbs) := by rw [hfull _ hd]; exact List.length_pos_iff.2 hne
      unfold piece
      rw [if_neg (by decide), if_neg (by decide), if_neg (by decide), if_neg (by decide), if_neg (by decide), if_pos ⟨by decide, hp⟩, hfull _ hd, List.take_length]
      unfold numR
      rw [if_pos rfl, hm, if_pos (by have := h.1; omega)]
      show Pc.tok 2 [] _ _ = _
      congr 1
      omega
    · intro c hc
      rcases List.mem_cons.1 hc with rfl | hc
      · decide
      · have := dig_no (hd c hc); exact ⟨this.2.1, this.2.2.1⟩
  · rw [if_neg h0]
    cases hl : Lib.decDigits n.natAbs with
    | nil => exact (dec_ne _ hl).elim
    | cons b r =>
      rw [hl] at hd hm
      obtain ⟨n1, n2, n3, n4⟩ := dig_no (hd b (by simp))
      refine LX.one ?_ ?_
      · unfold piece
        rw [if_neg (by rw [n1]; decide), if_neg n2, if_neg n3, if_neg (by rw [n4]; decide), if_pos (hd b (by simp)), hfull r (fun c hc => hd c (by simp [hc])), List.take_length]
        unfold numR
        rw [if_neg (by decide), hm, if_pos (by have := h.2; omega)]
        show Pc.tok 2 [] _ _ = _
        congr 1
        omega
      · intro c hc
        have := dig_no (hd c hc); exact ⟨this.2.1, this.2.2.1⟩
theorem lx_nums : ∀ (ns : List Int), (∀ n ∈ ns, rng n) → LX (numsT ns) (ns.map fun n => ⟨2, 0, [], n⟩)
  | [], _ => LX.nil
  | [n], h => lx_num (h n (by simp))
  | n :: m :: r, h => by
    have := (lx_num (h n (by simp))).cat (lx_nums (m :: r) fun k hk => h k (by simp [hk])).bl (hard_bl _)
    exact this
theorem verb_in : ∀ (l : List (List UInt8)) (f : Int) (two : Bool), verbIn l f two ≠ [] → verbIn l f two ∈ l ∧ verbR (verbIn l f two) two = f ∧ f ≠ 0
  | [], f, two, h => (h rfl).elim
  | w :: r, f, two, h => by
    unfold verbIn at h ⊢
    by_cases hc : ((verbR w two != 0) && (verbR w two == f)) = true
    · rw [if_pos hc]
      simp at hc
      exact ⟨by simp, hc.2, by rw [← hc.2]; exact hc.1⟩
    · rw [if_neg hc] at h ⊢
      have := verb_in r f two h
      exact ⟨by simp [this.1], this.2⟩
theorem okI_parts {x : It} (h : okI x = true) : 3 ≤ x.how ∧ x.how ≤ 7 ∧ x.ns = [] ∧ x.nm = [] ∧ verbW x.fn (x.how != 3) ∈ wordsL ∧ verbR (verbW x.fn (x.how != 3)) (x.how != 3) = x.fn ∧ x.fn ≠ 0 ∧ (x.how = 3 ∨ x.how = 4 ∨ tk2 x.fn = true) := by
  unfold okI at h
  simp only [Bool.and_eq_true, decide_eq_true_eq, Bool.or_eq_true, beq_iff_eq] at h
  obtain ⟨⟨h1, h2, h3, h4, h5⟩, h6⟩ := h
  have hv := verb_in wordsL x.fn (x.how != 3) h5
  exact ⟨h1, h2, h3, h4, hv.1, hv.2.1, hv.2.2, by rcases h6 with (h6 | h6) | h6; exact .inl h6; exact .inr (.inl h6); exact .inr (.inr h6)⟩
/-- A verb's text, with its mark, and a blank behind it. -/
theorem lx_verb {x : It} (h : okI x = true) {s : List UInt8} {T : List Tk} (hs : LX s T) : LX (verbW x.fn (x.how != 3) ++ markW x.how ++ 32 :: s) (vtok x ++ T) := by
  obtain ⟨h1, h2, _, _, h5, _⟩ := okI_parts h
  have hw := lx_word h5
  unfold vtok
  by_cases hh : x.how = 3 ∨ x.how = 4
  · rw [if_pos hh]
    have hm : markW x.how = [] := by unfold markW; rw [if_neg (by omega), if_neg (by omega), if_neg (by omega)]
    rw [hm, List.append_nil]
    exact hw.cat hs.bl (hard_bl _)
  · rw [if_neg hh]
    have hm := lx_mark x.how hh ⟨h1, h2⟩
    have := hw.cat (hm.1.cat hs.bl (hard_bl _)) (hm.2 _)
    simpa [List.append_assoc] using this
theorem lx_brk {p : Pt} {T : List Tk} (h : LX p.s T) : LX (brkP p).s (btok p T) := by
  unfold brkP btok
  cases hp : p.pl with
  | true => simpa using h
  | false =>
    have h41 : LX [41] [⟨3, 0, [41], 0⟩] := LX.one rfl (by decide)
    simpa using (h.cat h41 (hard_cl _)).op
theorem opd_num {x : It} (h1 : x.how = 1) (h2 : 0 < (opdP x).tk) : x.fn = 0 ∧ x.nm = [] ∧ opdP x = ⟨numsT x.ns, true, x.ns.length, 0⟩ ∧ 0 < x.ns.length ∧ x.ns.length ≤ 256 := by
  unfold opdP at h2 ⊢
  by_cases hf : x.fn ≠ 0
  · rw [if_pos hf] at h2; cases h2
  rw [if_neg hf, if_neg (by omega)] at h2 ⊢
  by_cases hn : x.nm ≠ [] ∨ 256 < x.ns.length
  · rw [if_pos hn] at h2; cases h2
  rw [if_neg hn] at h2 ⊢
  have h3 : x.nm = [] := by
    cases e : x.nm with
    | nil => rfl
    | cons a b => exact (hn (.inl (by rw [e]; simp))).elim
  exact ⟨by omega, h3, rfl, h2, by have : ¬ 256 < x.ns.length := fun e => hn (.inr e); omega⟩
theorem opd_nam {x : It} (h1 : x.how = 2) (h2 : 0 < (opdP x).tk) : x.fn = 0 ∧ x.ns = [] ∧ nameB x.nm = true ∧ opdP x = ⟨x.nm, true, 1, 0⟩ := by
  unfold opdP at h2 ⊢
  by_cases hf : x.fn ≠ 0
  · rw [if_pos hf] at h2; cases h2
  rw [if_neg hf, if_pos h1] at h2 ⊢
  by_cases hn : 0 < x.ns.length ∨ nameB x.nm = false
  · rw [if_pos hn] at h2; cases h2
  rw [if_neg hn] at h2 ⊢
  exact ⟨by omega, by cases e : x.ns with | nil => rfl | cons a b => exact (hn (.inl (by rw [e]; simp))).elim, by simpa using fun e => hn (.inr e), rfl⟩
theorem lex_seg {l : List It} {p : Pt} {T : List Tk} (h : Seg l p T) : (∀ x ∈ l, ∀ n ∈ x.ns, rng n) → LX p.s T := by
  induction h with
  | num x h1 h2 =>
    intro hr
    rw [(opd_num h1 h2).2.2.1]
    exact lx_nums _ (hr x (by simp))
  | nam x h1 h2 =>
    intro hr
    have e := opd_nam h1 h2
    rw [e.2.2.2]
    exact lx_name (name_word e.2.2.1)
  | mon x l p T _ h1 h2 ih =>
    intro hr
    exact lx_verb h1 (ih fun y hy => hr y (by simp [hy]))
  | dy x l m p q T U _ _ h1 h2 ih ig =>
    intro hr
    have hp := ih fun y hy => hr y (by simp [hy])
    have hq := ig fun y hy => hr y (by simp [hy])
    have := (lx_brk hp).cat (lx_verb h1 hq).bl (hard_bl _)
    simpa [dyP, List.append_assoc] using this
theorem seg_len {l : List It} {p : Pt} {T : List Tk} (h : Seg l p T) : p.tk = T.length := by
  induction h with
  | num x h1 h2 => rw [(opd_num h1 h2).2.2.1]; simp
  | nam x h1 h2 => rw [(opd_nam h1 h2).2.2.2]; rfl
  | mon x l p T _ h1 h2 ih =>
    unfold monP vtok
    rw [List.length_append]
    by_cases hh : x.how = 3 ∨ x.how = 4
    · simp only [if_pos hh]; simp [ih]
    · simp only [if_neg hh]; simp [ih]
  | dy x l m p q T U _ _ h1 h2 ih ig =>
    unfold dyP vtok brkP btok
    cases hp : p.pl <;> by_cases hh : x.how = 3 ∨ x.how = 4 <;> simp [hh, ih, ig] <;> omega
end Go.Proofs.YtbapgdhcbfpdoaaGreatDoor
/- A segment's tokens are read as its items. Pure. -/
namespace Go.Proofs.YtbapgdhcbfpdoaaGreatDoor
open Go.RowKit
def nomark (t : Tk) : Prop := t.w ≠ [47] ∧ t.w ≠ [92] ∧ t.w ≠ [46]
theorem mk_at {t : Tk} (h : nomark t) (r : List Tk) : mk (t :: r) = ([], t :: r) := by
  rw [mk_c, if_neg (by unfold nomark at h; simp [h])]
theorem word_nomark {w : List UInt8} (h : w ∈ wordsL) : w ≠ [47] ∧ w ≠ [92] ∧ w ≠ [46] ∧ w ≠ [41] := by
  simp only [wordsL, List.mem_cons, List.not_mem_nil, or_false] at h
  rcases h with rfl | rfl | rfl | rfl | rfl | rfl | rfl | rfl | rfl | rfl | rfl | rfl | rfl | rfl | rfl | rfl | rfl | rfl | rfl | rfl | rfl | rfl | rfl | rfl | rfl <;> decide
theorem name_nomark {w : List UInt8} (h : nameB w = true) : w ≠ [47] ∧ w ≠ [92] ∧ w ≠ [46] ∧ w ≠ [41] ∧ w ≠ [40] ∧ vb w = false := by
  refine ⟨?_, ?_, ?_, ?_, ?_, ?_⟩
  · rintro rfl; exact absurd h (by decide)
  · rintro rfl; exact absurd h (by decide)
  · rintro rfl; exact absurd h (by decide)
  · rintro rfl; exact absurd h (by decide)
  · rintro rfl; exact absurd h (by decide)
  · unfold nameB at h
    simp only [Bool.and_eq_true, Bool.not_eq_true'] at h
    exact h.1.1.2
theorem vtok_cons (x : It) : ∃ m, vtok x = wtok (verbW x.fn (x.how != 3)) :: m := ⟨_, rfl⟩
theorem btok_cons (p : Pt) (T : List Tk) : p.pl = false → btok p T = ⟨3, 0, [40], 0⟩ :: (T ++ [⟨3, 0, [41], 0⟩]) := fun h => by unfold btok; rw [h]; rfl
/-- How a segment begins. -/
theorem seg_head {l : List It} {p : Pt} {T : List Tk} (h : Seg l p T) : ∃ t r, T = t :: r ∧ nomark t ∧ t.w ≠ [41] := by
  induction h with
  | num x h1 h2 =>
    have := (opd_num h1 h2).2.2.2.1
    cases e : x.ns with
    | nil => rw [e] at this; cases this
    | cons n r => exact ⟨_, _, rfl, ⟨by simp, by simp, by simp⟩, by simp⟩
  | nam x h1 h2 =>
    have := name_nomark (opd_nam h1 h2).2.2.1
    exact ⟨_, _, rfl, ⟨this.1, this.2.1, this.2.2.1⟩, this.2.2.2.1⟩
  | mon x l p T _ h1 h2 ih =>
    have := word_nomark (okI_parts h1).2.2.2.2.1
    exact ⟨_, _, rfl, ⟨this.1, this.2.1, this.2.2.1⟩, this.2.2.2⟩
  | dy x l m p q T U _ _ h1 h2 ih ig =>
    cases hp : p.pl with
    | true =>
      obtain ⟨t, r, rfl, h3⟩ := ih
      exact ⟨t, _, by unfold btok; rw [hp]; rfl, h3⟩
    | false => exact ⟨_, _, by rw [btok_cons p T hp]; rfl, ⟨by simp, by simp, by simp⟩, by simp⟩
theorem nums_map : ∀ (ns : List Int) (u : Tk) (r : List Tk), u.k ≠ 2 → numsOf ((ns.map fun n => (⟨2, 0, [], n⟩ : Tk)) ++ u :: r) = ns ∧ pastNums ((ns.map fun n => (⟨2, 0, [], n⟩ : Tk)) ++ u :: r) = u :: r
  | [], u, r, h => ⟨nn_not h, pn_not h⟩
  | n :: ns, u, r, h => by
    have := nums_map ns u r h
    refine ⟨?_, ?_⟩
    · rw [List.map_cons, List.cons_append, nn_num rfl, this.1]
    · rw [List.map_cons, List.cons_append, pn_num rfl, this.2]
/-- A verb and its mark. -/
theorem phr_v {x : It} (h : okI x = true) {t : Tk} (ht : nomark t) (r : List Tk) : ∃ m, vtok x = wtok (verbW x.fn (x.how != 3)) :: m ∧ vb (verbW x.fn (x.how != 3)) = true ∧ mk (m ++ t :: r) = (markW x.how, t :: r) ∧ phR (verbW x.fn (x.how != 3)) (twoI x) (markW x.how) = (x.how, x.fn) ∧ m.length ≤ 1 ∧ (wtok (verbW x.fn (x.how != 3))).k ≠ 4 ∧ (wtok (verbW x.fn (x.how != 3))).k ≠ 2 := by
  obtain ⟨h1, h2, _, _, h5, h6, h7, h8⟩ := okI_parts h
  refine ⟨_, rfl, ?_, ?_, ?_, ?_, ?_, ?_⟩
  · unfold vb
    cases hb : (x.how != 3) with
    | false => rw [hb] at h6; rw [h6]; simp [h7]
    | true => rw [hb] at h6; rw [h6]; simp [h7]
  · by_cases hh : x.how = 3 ∨ x.how = 4
    · rw [if_pos hh, List.nil_append, mk_at ht]
      unfold markW; rw [if_neg (by omega), if_neg (by omega), if_neg (by omega)]
    · rw [if_neg hh]
      show mk (_ :: t :: r) = _
      rw [mk_c, if_pos]
      unfold markW
      by_cases h5 : x.how = 5
      · simp [h5]
      by_cases h6 : x.how = 6
      · simp [h6]
      have h7 : x.how = 7 := by omega
      simp [h7]
  · have hbt : ∀ w, verbR w true = x.fn → tk2 x.fn = true → betw w = x.fn := fun w hw hk => by
      unfold betw
      rw [hw, if_neg]
      unfold tk2 at hk
      simp at hk
      omega
    have hc : x.how = 3 ∨ x.how = 4 ∨ x.how = 5 ∨ x.how = 6 ∨ x.how = 7 := by omega
    rcases hc with hc | hc | hc | hc | hc
    · have e : (x.how != 3) = false := by rw [hc]; rfl
      rw [e] at h6 ⊢
      have e2 : twoI x = false := by unfold twoI; rw [hc]; rfl
      rw [e2]
      unfold phR markW
      simp [hc, h6]
    · have e : (x.how != 3) = true := by rw [hc]; rfl
      rw [e] at h6 ⊢
      have e2 : twoI x = true := by unfold twoI; rw [hc]; rfl
      rw [e2]
      unfold phR markW
      simp [hc, h6]
    · have e : (x.how != 3) = true := by rw [hc]; rfl
      rw [e] at h6 ⊢
      have e2 : twoI x = false := by unfold twoI; rw [hc]; rfl
      rw [e2]
      unfold phR markW
      simp [hc, hbt _ h6 (by rcases h8 with h8 | h8 | h8; omega; omega; exact h8)]
    · have e : (x.how != 3) = true := by rw [hc]; rfl
      rw [e] at h6 ⊢
      have e2 : twoI x = false := by unfold twoI; rw [hc]; rfl
      rw [e2]
      unfold phR markW
      simp [hc, hbt _ h6 (by rcases h8 with h8 | h8 | h8; omega; omega; exact h8)]
    · have e : (x.how != 3) = true := by rw [hc]; rfl
      rw [e] at h6 ⊢
      have e2 : twoI x = true := by unfold twoI; rw [hc]; rfl
      rw [e2]
      unfold phR markW
      simp [hc, hbt _ h6 (by rcases h8 with h8 | h8 | h8; omega; omega; exact h8)]
  · split <;> simp
  · unfold wtok; simp only; split <;> decide
  · unfold wtok; simp only; split <;> decide
theorem zI_ok {x : It} (h : okI x = true) : zI x = ⟨x.how, 0, x.fn, [], []⟩ := by
  obtain ⟨_, _, h3, h4, _⟩ := okI_parts h
  unfold zI
  rw [← h3, ← h4]
theorem cl_w {u : Tk} (h : closes u) (f : List Tk → Rx) (left : List It) (r : List Tk) : rtail f left (u :: r) = .ok left (u :: r) := by rw [rtail_cons, if_pos h.2]
/-- Operands. -/
theorem ropd_seg {l : List It} {p : Pt} {T : List Tk} (h : Seg l p T) (hp : p.pl = true) (f : List Tk → Rx) (d : Nat) (u : Tk) (r : List Tk) (hu : u.k ≠ 2) : ∃ t r', T = t :: r' ∧ vb t.w = false ∧ ropd f d t (r' ++ u :: r) = .ok (l.map zI) (u :: r) := by
  cases h with
  | num x h1 h2 =>
    obtain ⟨h3, h4, _, h5, _⟩ := opd_num h1 h2
    cases e : x.ns with
    | nil => rw [e] at h5; cases h5
    | cons n ns =>
      refine ⟨_, _, rfl, vb_nil, ?_⟩
      have hm := nums_map ns u r hu
      unfold ropd
      rw [if_pos rfl, hm.1, hm.2]
      unfold zI
      simp [h1, h3, h4, e]
  | nam x h1 h2 =>
    obtain ⟨h3, h4, h5, _⟩ := opd_nam h1 h2
    refine ⟨_, _, rfl, (name_nomark h5).2.2.2.2.2, ?_⟩
    unfold ropd
    rw [if_neg (by simp), if_pos h5]
    unfold zI
    simp [h1, h3, h4]
  | mon x l p T _ h1 h2 => cases hp
  | dy x l m p q T U _ _ h1 h2 => cases hp
theorem rx_seg {l : List It} {p : Pt} {T : List Tk} (h : Seg l p T) : ∀ (n d : Nat) (u : Tk) (r : List Tk), T.length ≤ n → d + p.ne ≤ 32 → closes u → u.k ≠ 2 → rx n d (T ++ u :: r) = .ok (l.map zI) (u :: r) := by
  have opd : ∀ {l : List It} {p : Pt} {T : List Tk}, Seg l p T → p.pl = true → ∀ (n d : Nat) (u : Tk) (r : List Tk), T.length ≤ n → closes u → u.k ≠ 2 → rx n d (T ++ u :: r) = .ok (l.map zI) (u :: r) := by
    intro l p T h hp n d u r hn hu hk
    obtain ⟨t, r', rfl, hv, hr⟩ := ropd_seg h hp (rx (n - 1) (d + 1)) d u r hk
    cases n with
    | zero => simp at hn
    | succ n =>
      rw [List.cons_append, rx_cons, if_neg (by rw [hv]; decide)]
      have hr : ropd (rx n (d + 1)) d t (r' ++ u :: r) = .ok (l.map zI) (u :: r) := hr
      rw [hr]
      exact cl_w hu _ _ _
  induction h with
  | num x h1 h2 => intro n d u r hn hd hu hk; exact opd (.num x h1 h2) (by rw [(opd_num h1 h2).2.2.1]) n d u r hn hu hk
  | nam x h1 h2 => intro n d u r hn hd hu hk; exact opd (.nam x h1 h2) (by rw [(opd_nam h1 h2).2.2.2]) n d u r hn hu hk
  | mon x l p T hs h1 h2 ih =>
    intro n d u r hn hd hu hk
    obtain ⟨t, r', hT, ht, _⟩ := seg_head hs
    obtain ⟨m, e1, e2, e3, e4, e5, _⟩ := phr_v h1 (t := t) ht (r' ++ u :: r)
    rw [h2] at e4
    have hlen : (vtok x ++ T).length = m.length + 1 + T.length := by rw [e1]; simp; omega
    rw [hlen] at hn
    cases n with
    | zero => omega
    | succ n =>
      rw [e1, List.append_assoc, List.cons_append, rx_cons, if_pos (show vb (wtok (verbW x.fn (x.how != 3))).w = true from e2)]
      have e6 : m ++ (T ++ u :: r) = m ++ t :: (r' ++ u :: r) := by rw [hT]; rfl
      rw [e6, e3]
      show (if (phR (verbW x.fn (x.how != 3)) false (markW x.how)).2 = 0 then _ else _) = _
      rw [e4, if_neg (okI_parts h1).2.2.2.2.2.2.1]
      have e7 : t :: (r' ++ u :: r) = T ++ u :: r := by rw [hT]; rfl
      rw [e7, ih n d u r (by omega) hd hu hk, List.map_append]
      show Rx.ok _ _ = _
      rw [show [x].map zI = [zI x] from rfl, zI_ok h1]
      have e9 : phR (wtok (verbW x.fn (x.how != 3))).w false (markW x.how) = (x.how, x.fn) := e4
      dsimp only
      rw [e9]
      rfl
  | dy x l m p q T U hs hg h1 h2 ih ig =>
    intro n d u r hn hd hu hk
    obtain ⟨t, r', hU, ht, _⟩ := seg_head hg
    obtain ⟨mm, e1, e2, e3, e4, e5, e6, e6'⟩ := phr_v h1 (t := t) ht (r' ++ u :: r)
    rw [h2] at e4
    have hw := word_nomark (okI_parts h1).2.2.2.2.1
    have hlen : (btok p T ++ vtok x ++ U).length = (btok p T).length + (mm.length + 1) + U.length := by rw [e1]; simp; omega
    rw [hlen] at hn
    have hne : d + (brkP p).ne ≤ 32 ∧ d + q.ne ≤ 32 := by unfold dyP at hd; simp only at hd; omega
    -- what stands behind the left one
    have htail : ∀ k, U.length ≤ k → ∀ left, rtail (rx k d) left (wtok (verbW x.fn (x.how != 3)) :: (mm ++ (U ++ u :: r))) = .ok (left ++ m.map zI ++ [zI x]) (u :: r) := fun k hk2 left => by
      rw [rtail_cons, if_neg (by rintro (h | h); exact e6 h; exact hw.2.2.2 h)]
      rw [if_pos (show vb (wtok (verbW x.fn (x.how != 3))).w = true from e2)]
      have e7 : mm ++ (U ++ u :: r) = mm ++ t :: (r' ++ u :: r) := by rw [hU]; rfl
      rw [e7, e3]
      show (if (phR (verbW x.fn (x.how != 3)) true (markW x.how)).2 = 0 then _ else _) = _
      rw [e4, if_neg (okI_parts h1).2.2.2.2.2.2.1]
      have e8 : t :: (r' ++ u :: r) = U ++ u :: r := by rw [hU]; rfl
      rw [e8, ig k d u r hk2 hne.2 hu hk]
      show Rx.ok _ _ = _
      rw [zI_ok h1]
      have e9 : phR (wtok (verbW x.fn (x.how != 3))).w true (markW x.how) = (x.how, x.fn) := e4
      dsimp only
      rw [e9]
      rfl
    have hall : (btok p T ++ vtok x ++ U) ++ u :: r = btok p T ++ wtok (verbW x.fn (x.how != 3)) :: (mm ++ (U ++ u :: r)) := by rw [e1]; simp
    rw [hall, show (l ++ m ++ [x]).map zI = l.map zI ++ m.map zI ++ [zI x] by simp]
    cases hp : p.pl with
    | true =>
      have hb : btok p T = T := by unfold btok; rw [hp]; rfl
      rw [hb] at hn ⊢
      obtain ⟨t2, r2, hT, hv, hr⟩ := ropd_seg hs hp (rx (n - 1) (d + 1)) d (wtok (verbW x.fn (x.how != 3))) (mm ++ (U ++ u :: r)) e6'
      subst hT
      cases n with
      | zero => simp at hn
      | succ n =>
        rw [List.cons_append, rx_cons, if_neg (by rw [hv]; decide)]
        have hr : ropd (rx n (d + 1)) d t2 (r2 ++ wtok (verbW x.fn (x.how != 3)) :: (mm ++ (U ++ u :: r))) = .ok (l.map zI) (wtok (verbW x.fn (x.how != 3)) :: (mm ++ (U ++ u :: r))) := hr
        rw [hr]
        exact htail n (by omega) _
    | false =>
      have hb := btok_cons p T hp
      rw [hb] at hn ⊢
      have hbn : (brkP p).ne = p.ne + 1 := by unfold brkP; rw [hp]; rfl
      rw [hbn] at hne
      simp only [List.length_cons, List.length_append, List.length_nil] at hn
      cases n with
      | zero => omega
      | succ n =>
        rw [List.cons_append, rx_cons, if_neg (by show ¬ vb [40] = true; rw [vb_op]; decide)]
        unfold ropd
        rw [if_neg (by decide), if_neg (by decide), if_pos rfl, if_neg (by omega)]
        have e9 : T ++ [(⟨3, 0, [41], 0⟩ : Tk)] ++ wtok (verbW x.fn (x.how != 3)) :: (mm ++ (U ++ u :: r)) = T ++ ⟨3, 0, [41], 0⟩ :: (wtok (verbW x.fn (x.how != 3)) :: (mm ++ (U ++ u :: r))) := by simp
        rw [e9, ih n (d + 1) ⟨3, 0, [41], 0⟩ _ (by omega) (by omega) cl_closes (by decide)]
        show (match (if ([41] : List UInt8) = [41] then Rx.ok (l.map zI) (wtok (verbW x.fn (x.how != 3)) :: (mm ++ (U ++ u :: r))) else Rx.err 0 42) with | .err a e => Rx.err a e | .ok left rest => rtail (rx n d) left rest) = _
        rw [if_pos rfl]
        exact htail n (by omega) _
end Go.Proofs.YtbapgdhcbfpdoaaGreatDoor
/- What is shown is read as the program. Pure. -/
namespace Go.Proofs.YtbapgdhcbfpdoaaGreatDoor
open Go.RowKit
theorem seg_k4 {l : List It} {p : Pt} {T : List Tk} (h : Seg l p T) : ∀ t ∈ T, t.k ≠ 4 := by
  have hv : ∀ x : It, ∀ t ∈ vtok x, t.k ≠ 4 := by
    intro x t ht
    unfold vtok at ht
    rcases List.mem_cons.1 ht with rfl | ht
    · unfold wtok; simp only; split <;> decide
    · split at ht
      · cases ht
      · simp only [List.mem_singleton] at ht; subst ht; simp
  induction h with
  | num x h1 h2 =>
    intro t ht
    obtain ⟨n, _, rfl⟩ := List.mem_map.1 ht
    show (2 : Int) ≠ 4; decide
  | nam x h1 h2 =>
    intro t ht
    simp only [List.mem_singleton] at ht
    subst ht
    show (1 : Int) ≠ 4; decide
  | mon x l p T _ h1 h2 ih =>
    intro t ht
    rcases List.mem_append.1 ht with ht | ht
    · exact hv x t ht
    · exact ih t ht
  | dy x l m p q T U _ _ h1 h2 ih ig =>
    intro t ht
    rcases List.mem_append.1 ht with ht | ht
    · rcases List.mem_append.1 ht with ht | ht
      · unfold btok at ht
        split at ht
        · exact ih t ht
        · rcases List.mem_cons.1 ht with rfl | ht
          · show (3 : Int) ≠ 4; decide
          · rcases List.mem_append.1 ht with ht | ht
            · exact ih t ht
            · simp only [List.mem_singleton] at ht; subst ht; show (3 : Int) ≠ 4; decide
      · exact hv x t ht
    · exact ig t ht
theorem expr_seg {l : List It} {p : Pt} {T : List Tk} (h : Seg l p T) (hn : p.ne ≤ 32) : exprR (T ++ [en0]) = .ok (l.map zI) := by
  have he : Ends (T ++ [en0]) := Ends.snoc _ _ rfl rfl
  have h4 : E4 (T ++ [en0]) := fun t ht hk => by
    rcases List.mem_append.1 ht with ht | ht
    · exact (seg_k4 h t ht hk).elim
    · simp only [List.mem_singleton] at ht; subst ht; rfl
  rw [whole_eq he h4]
  unfold rwhole
  rw [rx_seg h (T ++ [en0]).length 0 en0 [] (by simp) (by omega) ⟨vb_nil, .inl rfl⟩ (by decide)]
  rfl
/-- A line's tokens, and what stands behind them. -/
theorem lex_ln {t : List UInt8} {T : List Tk} (h : LX t T) (x : List UInt8) (a : Int) : ∃ ts, ts.map zT = T ∧ lexL (t ++ 10 :: x) a = Rs.pre (ts ++ [⟨4, a + t.length, [], 0⟩]) (lexL x (a + t.length + 1)) := by
  obtain ⟨ts, h1, h2⟩ := h.at a
  refine ⟨ts, h2, ?_⟩
  rw [lex_beh t.length t a (10 :: x) (Nat.le_refl _) (hard_nl x).1 (.inr fun c hc => (h.1 c hc).1), h1, lex_nl]
  show Rs.pre ts (Rs.pre _ _) = _
  rw [pre_pre]
theorem k4_z {ts T : List Tk} (h : ts.map zT = T) (h4 : ∀ t ∈ T, t.k ≠ 4) : ∀ t ∈ ts, t.k ≠ 4 := fun t ht => h4 (zT t) (by rw [← h]; exact List.mem_map.2 ⟨t, ht, rfl⟩)
/-- A line, places erased: what it makes of a program. -/
theorem line_z {ts T : List Tk} (h : ts.map zT = T) (h4 : ∀ t ∈ T, t.k ≠ 4) {p0 q0 : Pg} (hq : addR (zP p0) (T ++ [en0]) = .ok q0) (a e : Int) : ∃ p1, zP p1 = zP q0 ∧ ∀ us, linesR e p0 ((ts ++ [⟨4, a, [], 0⟩]) ++ us) = linesR e p1 us := by
  have h1 := add_z p0 (ts ++ [⟨4, a, [], 0⟩])
  have h2 : (ts ++ [(⟨4, a, [], 0⟩ : Tk)]).map zT = T ++ [en0] := by rw [List.map_append, h]; rfl
  rw [h2, hq] at h1
  obtain ⟨p1, h3, h5⟩ := zR_ok h1
  refine ⟨p1, h5, fun us => ?_⟩
  rw [List.append_assoc, List.singleton_append, lines_one (k4_z h h4) rfl, h3]
theorem compl_nil (x : List Inp) : compl ⟨x, []⟩ = false := rfl
theorem zP_ins (p : Pg) : (zP p).ins.length = p.ins.length := by simp [zP]
theorem zP_lns (p : Pg) : (zP p).lns.length = p.lns.length := by simp [zP]
theorem compl_zP (p : Pg) : compl (zP p) = compl p := compl_z p
theorem grow_out {T : List Tk} {l : List It} (h : exprR (T ++ [en0]) = .ok l) (hT : T.length + 1 ≤ 256) {p : Pg} (hc : compl p = false) (hn : p.ins.length + p.lns.length ≠ 64) : addR p (outT 0 :: T ++ [en0]) = .ok ⟨p.ins, p.lns ++ [⟨[], 0, l⟩]⟩ := by
  rw [add_outL hc hn, if_neg (by omega)]
  unfold addLnR
  rw [h]
theorem grow_named {T : List Tk} {l : List It} {nm : List UInt8} (hnm : nameB nm = true) (h : exprR (T ++ [en0]) = .ok l) (hT : T.length + 2 ≤ 256) {p : Pg} (hc : compl p = false) (hn : p.ins.length + p.lns.length ≠ 64) : addR p (⟨1, 0, nm, 0⟩ :: ⟨3, 0, [58], 0⟩ :: T ++ [en0]) = .ok ⟨p.ins, p.lns ++ [⟨nm, 0, l⟩]⟩ := by
  have hin : nm ≠ [105, 110] ∧ nm ≠ [111, 117, 116] := by
    unfold nameB at hnm
    simp only [Bool.and_eq_true, bne_iff_ne] at hnm
    exact ⟨hnm.1.2, hnm.2⟩
  show addR p (⟨1, 0, nm, 0⟩ :: (⟨3, 0, [58], 0⟩ :: T ++ [en0])) = _
  unfold addR
  simp only
  rw [if_neg (by decide), if_neg hn, if_neg (by simp; omega), if_neg (by rw [hc]; decide), if_neg hin.1, if_neg hin.2, if_neg (by rw [hnm]; decide)]
  show (if ([58] : List UInt8) ≠ [58] then _ else addLnR p nm 0 (T ++ [en0])) = _
  rw [if_neg (by decide)]
  unfold addLnR
  rw [h]
def sidT (d : List UInt8 × Int) : Tk := if d.1 = [] then ⟨2, 0, [], d.2⟩ else ⟨1, 0, d.1, 0⟩
def okS (d : List UInt8 × Int) : Prop := (d.1 = [] ∨ (d.2 = 0 ∧ nameB d.1 = true)) ∧ rng d.2
theorem sides_tok : ∀ (sd l : List (List UInt8 × Int)), (∀ d ∈ sd, okS d) → l.length + sd.length ≤ 4 → sidesR (sd.map sidT) l = .ok (l ++ sd)
  | [], l, _, _ => by simp [sidesR]
  | d :: r, l, h, hl => by
    have hd := h d (by simp)
    simp only [List.length_cons] at hl
    have ih := sides_tok r (l ++ [d]) (fun x hx => h x (by simp [hx])) (by simp; omega)
    rw [List.map_cons, sidesR]
    by_cases hn : d.1 = []
    · have e : sidT d = ⟨2, 0, [], d.2⟩ := by unfold sidT; rw [if_pos hn]
      rw [e, if_neg (by simp), if_neg (by omega)]
      show sidesR _ (l ++ [([], d.2)]) = _
      rw [show (([], d.2) : List UInt8 × Int) = d by rw [← hn], ih]
      simp
    · have h1 := hd.1.resolve_left hn
      have e : sidT d = ⟨1, 0, d.1, 0⟩ := by unfold sidT; rw [if_neg hn]
      rw [e, if_neg (by rw [h1.2]; simp), if_neg (by omega)]
      show sidesR _ (l ++ [(d.1, 0)]) = _
      rw [show ((d.1, 0) : List UInt8 × Int) = d by rw [← h1.1], ih]
      simp
theorem sidesP_ok : ∀ (sd : List (List UInt8 × Int)) (t : List UInt8), sidesP sd = some t → (∀ d ∈ sd, rng d.2) → (∀ d ∈ sd, okS d) ∧ LX t (sd.map sidT) ∧ (t = [] ∨ ∃ r, t = 32 :: r)
  | [], t, h, _ => by
    injection h with h
    subst h
    exact ⟨fun d hd => (by cases hd), LX.nil, .inl rfl⟩
  | d :: r, t, h, hr => by
    unfold sidesP at h
    by_cases hn : d.1 = []
    · rw [if_pos hn] at h
      obtain ⟨u, hu, rfl⟩ := Option.map_eq_some_iff.1 h
      obtain ⟨i1, i2, i3⟩ := sidesP_ok r u hu fun x hx => hr x (by simp [hx])
      refine ⟨fun x hx => ?_, ?_, .inr ⟨_, rfl⟩⟩
      · rcases List.mem_cons.1 hx with rfl | hx
        · exact ⟨.inl hn, hr x (by simp)⟩
        · exact i1 x hx
      · have hx := lx_num (hr d (by simp))
        have hc : LX (digs d.2 ++ u) ([⟨2, 0, [], d.2⟩] ++ r.map sidT) := hx.cat i2 (by rcases i3 with rfl | ⟨v, rfl⟩; exact hard_nil; exact hard_bl v)
        have e : sidT d = ⟨2, 0, [], d.2⟩ := by unfold sidT; rw [if_pos hn]
        rw [List.map_cons, e]
        exact hc.bl
    · rw [if_neg hn] at h
      by_cases h2 : d.2 = 0 ∧ nameB d.1 = true
      · rw [if_pos h2] at h
        obtain ⟨u, hu, rfl⟩ := Option.map_eq_some_iff.1 h
        obtain ⟨i1, i2, i3⟩ := sidesP_ok r u hu fun x hx => hr x (by simp [hx])
        refine ⟨fun x hx => ?_, ?_, .inr ⟨_, rfl⟩⟩
        · rcases List.mem_cons.1 hx with rfl | hx
          · exact ⟨.inr h2, hr x (by simp)⟩
          · exact i1 x hx
        · have hx := lx_name (name_word h2.2)
          have hc : LX (d.1 ++ u) ([⟨1, 0, d.1, 0⟩] ++ r.map sidT) := hx.cat i2 (by rcases i3 with rfl | ⟨v, rfl⟩; exact hard_nil; exact hard_bl v)
          have e : sidT d = ⟨1, 0, d.1, 0⟩ := by unfold sidT; rw [if_neg hn]
          rw [List.map_cons, e]
          exact hc.bl
      · rw [if_neg h2] at h; cases h
def inTk : Tk := ⟨1, 0, [105, 110], 0⟩
theorem inputP_ok {x : Inp} {t : List UInt8} (h : inputP x = some t) (hr : ∀ d ∈ x.sd, rng d.2) : nameB x.nm = true ∧ x.sd.length ≤ 4 ∧ (∀ d ∈ x.sd, okS d) ∧ LX t (inTk :: ⟨1, 0, x.nm, 0⟩ :: x.sd.map sidT) := by
  unfold inputP at h
  by_cases hc : nameB x.nm = false ∨ 4 < x.sd.length
  · rw [if_pos hc] at h; cases h
  rw [if_neg hc] at h
  obtain ⟨u, hu, rfl⟩ := Option.map_eq_some_iff.1 h
  obtain ⟨i1, i2, i3⟩ := sidesP_ok x.sd u hu hr
  have hnm : nameB x.nm = true := by
    cases e : nameB x.nm with
    | true => rfl
    | false => exact (hc (.inl e)).elim
  refine ⟨hnm, by omega, i1, ?_⟩
  have hin : LX [105, 110] [inTk] := LX.one rfl (by decide)
  have h2 := (lx_name (name_word hnm)).cat i2 (by rcases i3 with rfl | ⟨v, rfl⟩; exact hard_nil; exact hard_bl v)
  exact hin.cat h2.bl (hard_bl _)
theorem add_input {x : Inp} (hnm : nameB x.nm = true) (hl : x.sd.length ≤ 4) (hs : ∀ d ∈ x.sd, okS d) {p : Pg} (hp : p.lns = []) (hn : p.ins.length ≠ 64) : addR p (inTk :: ⟨1, 0, x.nm, 0⟩ :: x.sd.map sidT ++ [en0]) = .ok ⟨p.ins ++ [⟨x.nm, 0, x.sd⟩], p.lns⟩ := by
  show addR p (inTk :: (⟨1, 0, x.nm, 0⟩ :: x.sd.map sidT ++ [en0])) = _
  unfold addR
  simp only
  rw [if_neg (by decide), if_neg (by rw [hp]; simpa using hn), if_neg (by simp; omega), if_neg (by unfold compl; rw [hp]; simp), if_pos (show inTk.w = [105, 110] from rfl)]
  unfold addInR
  rw [if_neg (by rw [hp]; simp)]
  show (if (1 : Int) = 4 then _ else if nameB x.nm = false then _ else match sidesR (x.sd.map sidT ++ [en0]).dropLast [] with | .err a e => _ | .ok sd => _) = _
  rw [if_neg (by decide), if_neg (by rw [hnm]; decide), List.dropLast_concat, sides_tok x.sd [] hs (by simpa using hl)]
  rfl
def PgR (p : Pg) : Prop := (∀ m ∈ p.lns, ∀ x ∈ m.its, ∀ n ∈ x.ns, rng n) ∧ ∀ x ∈ p.ins, ∀ d ∈ x.sd, rng d.2
theorem zP_of {p q : Pg} (h : zP p = zP q) : p.ins.length = q.ins.length ∧ p.lns.length = q.lns.length ∧ compl p = compl q := by
  have e1 := congrArg (fun p : Pg => p.ins.length) h
  have e2 := congrArg (fun p : Pg => p.lns.length) h
  simp [zP] at e1 e2
  exact ⟨e1, e2, by rw [← compl_z p, h, compl_z]⟩
theorem zP_add (p0 : Pg) (x : List Inp) (m : List Ln) : zP ⟨(zP p0).ins ++ x, (zP p0).lns ++ m⟩ = ⟨(zP p0).ins ++ x.map zN, (zP p0).lns ++ m.map zL⟩ := by
  have h1 : (fun y => zN (zN y)) = zN := rfl
  have h2 : (fun y => zL (zL y)) = zL := funext fun y => (zL_zL y).symm
  unfold zP
  simp only [List.map_append, List.map_map, Function.comp_def, h1, h2]
theorem zL_mk {m : Ln} {nm : List UInt8} (h : nm = m.nm) : zL ⟨nm, 0, m.its.map zI⟩ = zL m := by
  subst h
  unfold zL
  simp only [zI_zI]
theorem back_ins : ∀ (xs : List Inp) (t : List UInt8), insP xs = some t → (∀ x ∈ xs, ∀ d ∈ x.sd, rng d.2) → ∀ (rest : List UInt8) (a : Int), ∃ TS, lexL (t ++ rest) a = Rs.pre TS (lexL rest (a + t.length)) ∧ ∀ (p0 : Pg) (e : Int), p0.lns = [] → p0.ins.length + xs.length ≤ 64 → ∃ p1, (∀ us, linesR e p0 (TS ++ us) = linesR e p1 us) ∧ p1.lns = [] ∧ zP p1 = ⟨(zP p0).ins ++ xs.map zN, []⟩
  | [], t, h, _, rest, a => by
    injection h with h
    subst h
    refine ⟨[], by rw [pre_nil]; simp, fun p0 e hp _ => ⟨p0, fun us => rfl, hp, ?_⟩⟩
    unfold zP
    rw [hp]; simp
  | x :: xs, t, h, hr, rest, a => by
    unfold insP at h
    obtain ⟨t1, h1, h2⟩ := Option.bind_eq_some_iff.1 h
    obtain ⟨t2, h3, rfl⟩ := Option.map_eq_some_iff.1 h2
    obtain ⟨i1, i2, i3, i4⟩ := inputP_ok h1 (hr x (by simp))
    obtain ⟨ts, hz, hlx⟩ := lex_ln i4 (t2 ++ rest) a
    have hk : ∀ t ∈ (inTk :: ⟨1, 0, x.nm, 0⟩ :: x.sd.map sidT), t.k ≠ 4 := by
      intro t ht
      rcases List.mem_cons.1 ht with rfl | ht
      · decide
      rcases List.mem_cons.1 ht with rfl | ht
      · show (1 : Int) ≠ 4; decide
      obtain ⟨d, _, rfl⟩ := List.mem_map.1 ht
      unfold sidT; split <;> simp
    obtain ⟨TS, j1, j2⟩ := back_ins xs t2 h3 (fun y hy => hr y (by simp [hy])) rest (a + t1.length + 1)
    refine ⟨ts ++ [⟨4, a + t1.length, [], 0⟩] ++ TS, ?_, fun p0 e hp hn => ?_⟩
    · rw [List.append_assoc, List.cons_append, hlx, j1, pre_pre, List.length_append, List.length_cons]
      congr 2
      omega
    · simp only [List.length_cons] at hn
      have hadd := add_input i1 i2 i3 (p := zP p0) (by unfold zP; rw [hp]; rfl) (by rw [zP_ins]; omega)
      obtain ⟨p1, h4, h5⟩ := line_z hz hk hadd (a + t1.length) e
      have e1 := zP_of h4
      have e2 := congrArg (fun p : Pg => p.ins) h4
      have hl1 : p1.lns = [] := by
        have := e1.2.1
        simp [zP, hp] at this
        exact this
      obtain ⟨p2, k1, k2, k3⟩ := j2 p1 e hl1 (by rw [e1.1]; simp [zP]; omega)
      refine ⟨p2, fun us => by rw [List.append_assoc, h5, k1], k2, ?_⟩
      rw [k3]
      have e3 : (zP p1).ins = (zP p0).ins ++ [zN x] := e2.trans (by simp [zP, zN])
      rw [e3]; simp
theorem back_lns : ∀ (ls : List Ln) (u : List UInt8), lnsP ls = some u → (∀ m ∈ ls, ∀ x ∈ m.its, ∀ n ∈ x.ns, rng n) → ∀ (a : Int), ∃ TS, lexL u a = .ok TS ∧ ∀ (p0 : Pg) (e b : Int), compl p0 = false → p0.ins.length + p0.lns.length + ls.length ≤ 64 → ∃ q, linesR e p0 (TS ++ [⟨4, b, [], 0⟩]) = .ok q ∧ zP q = ⟨(zP p0).ins, (zP p0).lns ++ ls.map zL⟩
  | [], u, h, _, a => by cases h
  | [m], u, h, hr, a => by
    have h : (if m.nm = [] then (exprP m.its 1).map fun t => [111, 117, 116, 32] ++ t ++ [10] else none) = some u := h
    by_cases hm : m.nm = []
    · rw [if_pos hm] at h
      obtain ⟨t, h1, rfl⟩ := Option.map_eq_some_iff.1 h
      obtain ⟨p, T, hs, _, ht, hn, rfl⟩ := exprP_seg h1
      have hlx := lex_seg hs (hr m (by simp))
      have hout : LX [111, 117, 116] [outT 0] := LX.one rfl (by decide)
      have hall : LX ([111, 117, 116, 32] ++ p.s) (outT 0 :: T) := hout.cat hlx.bl (hard_bl _)
      obtain ⟨ts, hz, hl⟩ := lex_ln hall [] a
      rw [lex_nil] at hl
      have hk : ∀ t ∈ (outT 0 :: T), t.k ≠ 4 := by
        intro t ht
        rcases List.mem_cons.1 ht with rfl | ht
        · decide
        · exact seg_k4 hs t ht
      refine ⟨ts ++ [⟨4, a + ([111, 117, 116, 32] ++ p.s).length, [], 0⟩], ?_, fun p0 e b hc hcnt => ?_⟩
      · have e1 : [111, 117, 116, 32] ++ p.s ++ [10] = ([111, 117, 116, 32] ++ p.s) ++ 10 :: [] := rfl
        rw [e1, hl]
        simp [Rs.pre]
      · simp only [List.length_cons, List.length_nil] at hcnt
        have hadd := grow_out (expr_seg hs hn) (by rw [← seg_len hs]; exact ht) (p := zP p0) (by rw [compl_zP, hc]) (by rw [zP_ins, zP_lns]; omega)
        obtain ⟨p1, h4, h5⟩ := line_z hz hk hadd (a + ([111, 117, 116, 32] ++ p.s).length) e
        have e1 := zP_of h4
        refine ⟨p1, ?_, ?_⟩
        · rw [h5, lines_skip, lines_nil, if_pos]
          rw [e1.2.2]
          simp [compl]
        · rw [h4]
          have := zP_add p0 [] [⟨[], 0, m.its.map zI⟩]
          rw [List.append_nil] at this
          rw [this, List.map_nil, List.append_nil, List.map_cons, List.map_nil, zL_mk hm.symm]
          rfl
    · rw [if_neg hm] at h; cases h
  | m :: m2 :: r, u, h, hr, a => by
    have h : (if nameB m.nm = false then none else (exprP m.its 2).bind fun t => (lnsP (m2 :: r)).map fun u => m.nm ++ [58, 32] ++ t ++ 10 :: u) = some u := h
    by_cases hm : nameB m.nm = false
    · rw [if_pos hm] at h; cases h
    rw [if_neg hm] at h
    have hm : nameB m.nm = true := by simpa using hm
    obtain ⟨t, h1, h2⟩ := Option.bind_eq_some_iff.1 h
    obtain ⟨u2, h3, rfl⟩ := Option.map_eq_some_iff.1 h2
    obtain ⟨p, T, hs, _, ht, hn, rfl⟩ := exprP_seg h1
    have hlx := lex_seg hs (hr m (by simp))
    have hcl : LX [58] [⟨3, 0, [58], 0⟩] := LX.one rfl (by decide)
    have hall : LX (m.nm ++ [58, 32] ++ p.s) (⟨1, 0, m.nm, 0⟩ :: ⟨3, 0, [58], 0⟩ :: T) := by
      have := (lx_name (name_word hm)).cat (hcl.cat hlx.bl (hard_bl _)) (hard_sg (by decide) (by decide) (by decide) _)
      simpa [List.append_assoc] using this
    obtain ⟨ts, hz, hl⟩ := lex_ln hall u2 a
    have hk : ∀ t ∈ ((⟨1, 0, m.nm, 0⟩ : Tk) :: ⟨3, 0, [58], 0⟩ :: T), t.k ≠ 4 := by
      intro t ht
      rcases List.mem_cons.1 ht with rfl | ht
      · simp
      rcases List.mem_cons.1 ht with rfl | ht
      · simp
      · exact seg_k4 hs t ht
    obtain ⟨TS, j1, j2⟩ := back_lns (m2 :: r) u2 h3 (fun y hy => hr y (by simp [hy])) (a + (m.nm ++ [58, 32] ++ p.s).length + 1)
    refine ⟨ts ++ [⟨4, a + (m.nm ++ [58, 32] ++ p.s).length, [], 0⟩] ++ TS, ?_, fun p0 e b hc hcnt => ?_⟩
    · rw [hl, j1]; rfl
    · simp only [List.length_cons] at hcnt
      have hadd := grow_named hm (expr_seg hs hn) (by rw [← seg_len hs]; exact ht) (p := zP p0) (by rw [compl_zP, hc]) (by rw [zP_ins, zP_lns]; omega)
      obtain ⟨p1, h4, h5⟩ := line_z hz hk hadd (a + (m.nm ++ [58, 32] ++ p.s).length) e
      have e1 := zP_of h4
      have hne : m.nm ≠ [] := by rintro e; rw [e] at hm; exact absurd hm (by decide)
      have hc1 : compl p1 = false := by
        rw [e1.2.2]
        simp [compl, hne]
      obtain ⟨q, k1, k2⟩ := j2 p1 e b hc1 (by rw [e1.1, e1.2.1]; simp [zP]; omega)
      refine ⟨q, by rw [List.append_assoc, h5, k1], ?_⟩
      have := zP_add p0 [] [⟨m.nm, 0, m.its.map zI⟩]
      rw [List.append_nil] at this
      rw [k2, h4, this, List.map_nil, List.append_nil, List.map_cons, List.map_nil, zL_mk rfl, List.map_cons, List.append_assoc]
      rfl
theorem show_back {p : Pg} {s : List UInt8} (h : textP p = some s) (hr : PgR p) (hl : s.length ≤ 65536) : ∃ q, parseR s = .ok q ∧ zP q = zP p := by
  unfold textP at h
  split at h
  · cases h
  rename_i hc
  obtain ⟨t, h1, h2⟩ := Option.bind_eq_some_iff.1 h
  obtain ⟨u, h3, rfl⟩ := Option.map_eq_some_iff.1 h2
  obtain ⟨TS, j1, j2⟩ := back_ins p.ins t h1 hr.2 u 0
  obtain ⟨US, k1, k2⟩ := back_lns p.lns u h3 hr.1 (0 + t.length)
  obtain ⟨p1, m1, m2, m3⟩ := j2 ⟨[], []⟩ ((t ++ u).length : Nat) rfl (by simp; omega)
  have hi1 : p1.ins.length = p.ins.length := by have := congrArg (fun p : Pg => p.ins.length) m3; simpa [zP] using this
  obtain ⟨q, n1, n2⟩ := k2 p1 ((t ++ u).length : Nat) ((t ++ u).length : Nat) (by unfold compl; rw [m2]; rfl) (by rw [m2, hi1]; simp; omega)
  refine ⟨q, ?_, ?_⟩
  · have hlx : lexR (t ++ u) = .ok (TS ++ US) := by
      unfold lexR
      rw [if_neg (by omega), j1, k1]
      rfl
    rw [pz_ok hlx, List.append_assoc, m1]
    exact n1
  · rw [n2, m3]
    simp [zP]
end Go.Proofs.YtbapgdhcbfpdoaaGreatDoor
/- What is read may be shown, with no more tokens. Pure. -/
namespace Go.Proofs.YtbapgdhcbfpdoaaGreatDoor
open Go.RowKit
theorem opens_no (d : Nat) : opens (List.replicate d none) = d := by
  induction d with
  | zero => rfl
  | succ d ih => rw [List.replicate_succ]; simp only [opens]; omega
theorem words_all : (vtab.all fun e => ((e.2.1 == 0) || (verbW e.2.1 false != [])) && ((e.2.2 == 0) || (verbW e.2.2 true != []))) = true := by decide +kernel
theorem word_of {w : List UInt8} {two : Bool} (h : verbR w two ≠ 0) : verbW (verbR w two) two ≠ [] := by
  rcases vlook_mem vtab w with h1 | ⟨v, h1⟩
  · exfalso
    apply h
    unfold verbR
    rw [h1]; cases two <;> rfl
  · have h2 := List.all_eq_true.1 words_all _ h1
    simp only [Bool.and_eq_true, Bool.or_eq_true, beq_iff_eq, bne_iff_ne] at h2
    unfold verbR at h ⊢
    cases two with
    | true => exact h2.2.resolve_left h
    | false => exact h2.1.resolve_left h
theorem betw_is {w : List UInt8} (h : betw w ≠ 0) : betw w = verbR w true := by
  unfold betw at h ⊢
  split at h
  · exact (h rfl).elim
  · rename_i hc; rw [if_neg hc]
theorem ph_ok {w : List UInt8} {b : Bool} {m : List UInt8} (a : Int) (h : (phR w b m).2 ≠ 0) : okI ⟨(phR w b m).1, a, (phR w b m).2, [], []⟩ = true ∧ twoI ⟨(phR w b m).1, a, (phR w b m).2, [], []⟩ = b ∧ (((phR w b m).1 = 3 ∨ (phR w b m).1 = 4) ↔ m = []) := by
  have key : ∀ (how f : Int), 3 ≤ how → how ≤ 7 → verbW f (how != 3) ≠ [] → (how = 3 ∨ how = 4 ∨ tk2 f = true) → okI ⟨how, a, f, [], []⟩ = true := by
    intro how f h1 h2 h3 h4
    unfold okI
    simp only [Bool.and_eq_true, decide_eq_true_eq, Bool.or_eq_true, beq_iff_eq]
    exact ⟨⟨h1, h2, trivial, trivial, h3⟩, by rcases h4 with h4 | h4 | h4; exact .inl (.inl h4); exact .inl (.inr h4); exact .inr h4⟩
  unfold phR at h ⊢
  by_cases c1 : m = [47] ∧ b = false
  · rw [if_pos c1] at h ⊢
    have h0 : betw w ≠ 0 := h
    exact ⟨key 5 (betw w) (by decide) (by decide) (by rw [betw_is h0]; exact word_of (two := true) (by rw [← betw_is h0]; exact h0)) (.inr (.inr (betw_two h0).1)), by rw [c1.2]; rfl, by rw [c1.1]; simp⟩
  rw [if_neg c1] at h ⊢
  by_cases c2 : m = [92] ∧ b = false
  · rw [if_pos c2] at h ⊢
    have h0 : betw w ≠ 0 := h
    exact ⟨key 6 (betw w) (by decide) (by decide) (by rw [betw_is h0]; exact word_of (two := true) (by rw [← betw_is h0]; exact h0)) (.inr (.inr (betw_two h0).1)), by rw [c2.2]; rfl, by rw [c2.1]; simp⟩
  rw [if_neg c2] at h ⊢
  by_cases c3 : m = [46] ∧ b = true
  · rw [if_pos c3] at h ⊢
    have h0 : betw w ≠ 0 := h
    exact ⟨key 7 (betw w) (by decide) (by decide) (by rw [betw_is h0]; exact word_of (two := true) (by rw [← betw_is h0]; exact h0)) (.inr (.inr (betw_two h0).1)), by rw [c3.2]; rfl, by rw [c3.1]; simp⟩
  rw [if_neg c3] at h ⊢
  by_cases c4 : m = [] ∧ b = true
  · rw [if_pos c4] at h ⊢
    have h0 : verbR w true ≠ 0 := h
    exact ⟨key 4 _ (by decide) (by decide) (word_of h0) (.inr (.inl rfl)), by rw [c4.2]; rfl, by rw [c4.1]; simp⟩
  rw [if_neg c4] at h ⊢
  by_cases c5 : m = []
  · rw [if_pos c5] at h ⊢
    have h0 : verbR w false ≠ 0 := h
    have hb : b = false := by cases b; rfl; exact (c4 ⟨c5, rfl⟩).elim
    exact ⟨key 3 _ (by decide) (by decide) (word_of h0) (.inl rfl), by rw [hb]; rfl, by rw [c5]; simp⟩
  · rw [if_neg c5] at h; exact (h rfl).elim
theorem mk_two (r : List Tk) : mk r = ([], r) ∨ ∃ m r', mk r = (m, r') ∧ m ≠ [] ∧ r.length = r'.length + 1 := by
  cases r with
  | nil => exact .inl rfl
  | cons t r =>
    rw [mk_c]
    by_cases h : t.w = [47] ∨ t.w = [92] ∨ t.w = [46]
    · rw [if_pos h]
      exact .inr ⟨_, _, rfl, by rcases h with h | h | h <;> rw [h] <;> simp, rfl⟩
    · rw [if_neg h]; exact .inl rfl
/-- How many tokens a verb takes. -/
theorem mk_tk {w : List UInt8} {b : Bool} {r : List Tk} (h : (phR w b (mk r).1).2 ≠ 0) : (if (phR w b (mk r).1).1 = 3 ∨ (phR w b (mk r).1).1 = 4 then 1 else 2) + (mk r).2.length = r.length + 1 := by
  have hp := (ph_ok 0 h).2.2
  rcases mk_two r with e | ⟨m, r', e, hm, hl⟩
  · rw [e] at hp ⊢
    rw [if_pos (hp.2 rfl)]
    simp only
    omega
  · rw [e] at hp ⊢
    rw [if_neg (fun h => hm (hp.1 h))]
    simp only
    omega
theorem nums_len2 : ∀ r : List Tk, (numsOf r).length + (pastNums r).length = r.length
  | [] => rfl
  | t :: r => by
    by_cases h : t.k = 2
    · rw [nn_num h, pn_num h]
      have := nums_len2 r
      simp only [List.length_cons]
      omega
    · rw [nn_not h, pn_not h]; simp
def Short (d : Nat) (its : List It) (k : Nat) (rest : List Tk) : Prop := ∃ p T, Seg its p T ∧ p.tk + rest.length ≤ k ∧ d + p.ne ≤ 32 ∧ its.length + rest.length ≤ k
def ShortB (d : Nat) (its : List It) (k : Nat) (rest : List Tk) : Prop := ∃ p T, Seg its p T ∧ (brkP p).tk + rest.length ≤ k ∧ d + (brkP p).ne ≤ 32 ∧ its.length + rest.length ≤ k
theorem ShortB.to {d : Nat} {its : List It} {k : Nat} {rest : List Tk} (h : ShortB d its k rest) : Short d its k rest := by
  obtain ⟨p, T, h1, h2, h3, h4⟩ := h
  refine ⟨p, T, h1, ?_, ?_, h4⟩
  · have : p.tk ≤ (brkP p).tk := by unfold brkP; split <;> simp
    omega
  · have : p.ne ≤ (brkP p).ne := by unfold brkP; split <;> simp
    omega
theorem ropd_short {n d : Nat} (ih : ∀ (ts : List Tk) (its : List It) (rest : List Tk), ts.length ≤ 257 → Ends ts → E4 ts → ts.length ≤ n → d + 1 ≤ 32 → rx n (d + 1) ts = .ok its rest → Short (d + 1) its ts.length rest) (hd : d ≤ 32) {t : Tk} {r : List Tk} (hl : r.length ≤ 256) (he : Ends (t :: r)) (h4 : E4 (t :: r)) (hn : r.length ≤ n) {left : List It} {rest : List Tk} (h : ropd (rx n (d + 1)) d t r = .ok left rest) : ShortB d left (r.length + 1) rest := by
  unfold ropd at h
  by_cases h2 : t.k = 2
  · rw [if_pos h2] at h
    injection h with e1 e2
    subst e1 e2
    have hr : Ends r := he.next fun e => by omega
    have hp := hr.past.pos
    have hlen := nums_len2 r
    have hx : opdP ⟨1, t.a, 0, [], t.n :: numsOf r⟩ = ⟨numsT (t.n :: numsOf r), true, (numsOf r).length + 1, 0⟩ := by
      unfold opdP
      simp only
      rw [if_neg (by simp), if_neg (by decide), if_neg (by simp; omega)]
      rfl
    refine ⟨_, _, .num ⟨1, t.a, 0, [], t.n :: numsOf r⟩ rfl (by rw [hx]; simp), ?_, ?_, ?_⟩
    · rw [hx]
      show (numsOf r).length + 1 + _ ≤ _
      omega
    · rw [hx]
      show d + 0 ≤ 32
      omega
    · simp only [List.length_cons, List.length_nil]; omega
  rw [if_neg h2] at h
  by_cases hn2 : nameB t.w = true
  · rw [if_pos hn2] at h
    injection h with e1 e2
    subst e1 e2
    have hx : opdP ⟨2, t.a, 0, t.w, []⟩ = ⟨t.w, true, 1, 0⟩ := by
      unfold opdP
      simp only
      rw [if_neg (by simp), if_pos trivial, if_neg (by rw [hn2]; simp)]
    refine ⟨_, _, .nam ⟨2, t.a, 0, t.w, []⟩ rfl (by rw [hx]; simp), ?_, ?_, ?_⟩
    · rw [hx]
      show 1 + r.length ≤ _
      omega
    · rw [hx]
      show d + 0 ≤ 32
      omega
    · simp only [List.length_cons, List.length_nil]; omega
  rw [if_neg hn2] at h
  by_cases h40 : t.w = [40]
  · rw [if_pos h40] at h
    by_cases hd32 : d = 32
    · rw [if_pos hd32] at h; cases h
    rw [if_neg hd32] at h
    have hr : Ends r := he.next fun e => by rw [e.2] at h40; cases h40
    cases hx : rx n (d + 1) r with
    | err a e => rw [hx] at h; cases h
    | ok its rest0 =>
      rw [hx] at h
      obtain ⟨p, T, i1, i2, i3, i4⟩ := ih r its rest0 (by omega) hr (h4.suf (List.suffix_cons _ _)) hn (by omega) hx
      cases rest0 with
      | nil => cases h
      | cons u r' =>
        have h : (if u.w = [41] then Rx.ok its r' else .err u.a 42) = .ok left rest := h
        by_cases h41 : u.w = [41]
        · rw [if_pos h41] at h
          injection h with e1 e2
          subst e1 e2
          simp only [List.length_cons] at i2 i4
          refine ⟨p, T, i1, ?_, ?_, by omega⟩
          · have : (brkP p).tk ≤ p.tk + 2 := by unfold brkP; split <;> simp
            omega
          · have : (brkP p).ne ≤ p.ne + 1 := by unfold brkP; split <;> simp
            omega
        · rw [if_neg h41] at h; cases h
  rw [if_neg h40] at h
  split at h <;> cases h
theorem rx_short : ∀ (n d : Nat) (ts : List Tk) (its : List It) (rest : List Tk), ts.length ≤ 257 → Ends ts → E4 ts → ts.length ≤ n → d ≤ 32 → rx n d ts = .ok its rest → Short d its ts.length rest := by
  intro n
  induction n with
  | zero => intro d ts its rest _ he _ hn; have := he.pos; omega
  | succ n ih =>
    intro d ts its rest hl he h4 hn hd h
    cases ts with
    | nil => exact he.elim
    | cons t r =>
      simp only [List.length_cons] at hl hn ⊢
      rw [rx_cons] at h
      by_cases hv : vb t.w = true
      · rw [if_pos hv] at h
        by_cases h0 : (phR t.w false (mk r).1).2 = 0
        · rw [if_pos h0] at h; cases h
        rw [if_neg h0] at h
        have hr : Ends r := he.next fun e => by rw [e.2, vb_nil] at hv; cases hv
        have hml := mk_len r
        cases hx : rx n d (mk r).2 with
        | err a e => rw [hx] at h; cases h
        | ok l rest0 =>
          rw [hx] at h
          injection h with e1 e2
          subst e1 e2
          obtain ⟨p, T, i1, i2, i3, i4⟩ := ih d (mk r).2 l rest0 (by omega) hr.mk (h4.suf ((mk_suf r).trans (List.suffix_cons _ _))) (by omega) hd hx
          have hp := ph_ok t.a h0
          have ht := mk_tk h0
          refine ⟨_, _, .mon ⟨(phR t.w false (mk r).1).1, t.a, (phR t.w false (mk r).1).2, [], []⟩ l p T i1 hp.1 hp.2.1, ?_, i3, ?_⟩
          · show (if (phR t.w false (mk r).1).1 = 3 ∨ (phR t.w false (mk r).1).1 = 4 then 1 else 2) + p.tk + rest0.length ≤ _
            omega
          · simp only [List.length_append, List.length_cons, List.length_nil]
            split at ht <;> omega
      · rw [if_neg hv] at h
        cases hy : ropd (rx n (d + 1)) d t r with
        | err a e => rw [hy] at h; cases h
        | ok left rest0 =>
          rw [hy] at h
          have hs := ropd_short (fun ts its rest a b c e f g => ih (d + 1) ts its rest a b c e f g) hd (by omega) he h4 (by omega) hy
          have hopd := opd_ok (n := n) (d := d) (fun ts l s a b c e => rx_ok n (d + 1) ts l s a b c e) t r [] (List.replicate d none) (by omega) he h4 hv (opens_no d)
          rw [hy] at hopd
          have h : rtail (rx n d) left rest0 = .ok its rest := h
          cases rest0 with
          | nil => cases h
          | cons u r' =>
            rw [rtail_cons] at h
            by_cases hc : u.k = 4 ∨ u.w = [41]
            · rw [if_pos hc] at h
              injection h with e1 e2
              subst e1 e2
              exact hs.to
            rw [if_neg hc] at h
            by_cases hvu : vb u.w = true
            · rw [if_pos hvu] at h
              by_cases h0 : (phR u.w true (mk r').1).2 = 0
              · rw [if_pos h0] at h; cases h
              rw [if_neg h0] at h
              obtain ⟨p, T, i1, i2, i3, i4⟩ := hs
              simp only [List.length_cons] at i2 i4
              have hru : Ends r' := hopd.2.1.next fun e => hc (.inl e.1)
              have hml := mk_len r'
              cases hx : rx n d (mk r').2 with
              | err a e => rw [hx] at h; cases h
              | ok l rest1 =>
                rw [hx] at h
                injection h with e1 e2
                subst e1 e2
                obtain ⟨q, U, j1, j2, j3, j4⟩ := ih d (mk r').2 l rest1 (by omega) hru.mk (h4.suf ((mk_suf r').trans ((List.suffix_cons _ _).trans (hopd.2.2.trans (List.suffix_cons _ _))))) (by omega) hd hx
                have hp := ph_ok u.a h0
                have ht := mk_tk h0
                refine ⟨_, _, .dy ⟨(phR u.w true (mk r').1).1, u.a, (phR u.w true (mk r').1).2, [], []⟩ left l p q T U i1 j1 hp.1 hp.2.1, ?_, ?_, ?_⟩
                · show (brkP p).tk + (if (phR u.w true (mk r').1).1 = 3 ∨ (phR u.w true (mk r').1).1 = 4 then 1 else 2) + q.tk + rest1.length ≤ _
                  omega
                · show d + max (brkP p).ne q.ne ≤ 32
                  omega
                · simp only [List.length_append, List.length_cons, List.length_nil]
                  split at ht <;> omega
            · rw [if_neg hvu] at h; cases h
/-- An expression that is read, shown. -/
theorem expr_short {ts : List Tk} {its : List It} (hl : ts.length ≤ 257) (he : Ends ts) (h4 : E4 ts) (h : exprR ts = .ok its) : ∃ p T, Seg its p T ∧ p.tk + 1 ≤ ts.length ∧ p.ne ≤ 32 ∧ its.length + 1 ≤ ts.length := by
  rw [whole_eq he h4] at h
  unfold rwhole at h
  cases hx : rx ts.length 0 ts with
  | err a e => rw [hx] at h; cases h
  | ok l rest =>
    rw [hx] at h
    obtain ⟨p, T, i1, i2, i3, i4⟩ := rx_short ts.length 0 ts l rest hl he h4 (Nat.le_refl _) (by omega) hx
    cases rest with
    | nil => cases h
    | cons u r =>
      have h : (if u.k = 4 then Er.ok l else .err u.a 46) = .ok its := h
      by_cases hk : u.k = 4
      · rw [if_pos hk] at h
        injection h with h
        subst h
        simp only [List.length_cons] at i2 i4
        exact ⟨p, T, i1, by omega, by omega, by omega⟩
      · rw [if_neg hk] at h; cases h
end Go.Proofs.YtbapgdhcbfpdoaaGreatDoor
/- What is read may be shown, with no more tokens: programs. Pure. -/
namespace Go.Proofs.YtbapgdhcbfpdoaaGreatDoor
open Go.RowKit
def exK (l : List It) : Nat := match runP l [] with
  | some [p] => p.tk
  | _ => 0
def lnK (m : Ln) : Nat := (if m.nm = [] then 1 else 2) + exK m.its + 1
def inK (x : Inp) : Nat := 3 + x.sd.length
def insK (l : List Inp) : Nat := (l.map inK).sum
def lnsK (l : List Ln) : Nat := (l.map lnK).sum
def pgK (p : Pg) : Nat := insK p.ins + lnsK p.lns
theorem insK_app (a b : List Inp) : insK (a ++ b) = insK a + insK b := by unfold insK; rw [List.map_append, List.sum_append]
theorem lnsK_app (a b : List Ln) : lnsK (a ++ b) = lnsK a + lnsK b := by unfold lnsK; rw [List.map_append, List.sum_append]
theorem seg_exK {l : List It} {p : Pt} {T : List Tk} (h : Seg l p T) : exK l = p.tk := by unfold exK; rw [seg_run h []]
def okD (d : List UInt8 × Int) : Prop := d.1 = [] ∨ (d.2 = 0 ∧ nameB d.1 = true)
def InR (x : Inp) : Prop := nameB x.nm = true ∧ x.sd.length ≤ 4 ∧ ∀ d ∈ x.sd, okD d
def LnR (m : Ln) : Prop := (m.nm = [] ∧ ∃ s, exprP m.its 1 = some s) ∨ (nameB m.nm = true ∧ ∃ s, exprP m.its 2 = some s)
def PgV (p : Pg) : Prop := (∀ x ∈ p.ins, InR x) ∧ ∀ m ∈ p.lns, LnR m
theorem sides_short : ∀ (us : List Tk) (l sd : List (List UInt8 × Int)), (∀ t ∈ us, Tok t) → (∀ t ∈ us, (t.k = 3 → wordB t.w = false)) → (∀ d ∈ l, okD d) → l.length ≤ 4 → sidesR us l = .ok sd → sd.length = l.length + us.length ∧ sd.length ≤ 4 ∧ ∀ d ∈ sd, okD d
  | [], l, sd, _, _, h2, h3, h => by rw [sidesR] at h; injection h with h; subst h; exact ⟨rfl, h3, h2⟩
  | t :: us, l, sd, h1, h1', h2, h3, h => by
    rw [sidesR] at h
    split at h
    · cases h
    rename_i hc
    split at h
    · cases h
    rename_i h4
    have ht := h1 t (by simp)
    have hd : okD (t.w, t.n) := by
      by_cases hk : t.k = 2
      · exact .inl (ht.2.2.1 hk)
      · have hn : nameB t.w = true := by
          cases e : nameB t.w with
          | true => rfl
          | false => exact (hc ⟨hk, e⟩).elim
        have hk1 : t.k = 1 ∨ t.k = 3 := by
          rcases ht.1 with h | h | h | h
          · exact .inl h
          · exact (hk h).elim
          · exact .inr h
          · have := (ht.2.1 h).1; rw [this] at hn; exact absurd hn (by decide)
        exact .inr ⟨(ht.2.2.2.1 hk1).2, hn⟩
    have := sides_short us (l ++ [(t.w, t.n)]) sd (fun x hx => h1 x (by simp [hx])) (fun x hx => h1' x (by simp [hx])) (fun d hd' => by
      rcases List.mem_append.1 hd' with h | h
      · exact h2 d h
      · simp only [List.mem_singleton] at h; subst h; exact hd) (by simp; omega) h
    simp only [List.length_append, List.length_cons, List.length_nil] at this ⊢
    exact ⟨by omega, this.2⟩
theorem add_short {p q : Pg} {ts : List Tk} (he : Ends ts) (h4 : E4 ts) (hT : ∀ t ∈ ts, Tok t ∧ (t.k = 3 → wordB t.w = false)) (h : addR p ts = .ok q) : pgK q ≤ pgK p + ts.length ∧ (PgV p → PgV q) := by
  have hln : ∀ (nm : List UInt8) (pl : Int) (us : List Tk) (k : Nat), Ends us → E4 us → us.length + k ≤ 257 → (nm = [] ∧ k = 1 ∨ nameB nm = true ∧ k = 2) → addLnR p nm pl us = .ok q → pgK q ≤ pgK p + us.length + k ∧ (PgV p → PgV q) := by
    intro nm pl us k hus h4us hl hnm h1
    unfold addLnR at h1
    split at h1
    · cases h1
    rename_i its h2
    injection h1 with h1
    subst h1
    obtain ⟨pt, T, i1, i2, i3, i4⟩ := expr_short (by omega) hus h4us h2
    refine ⟨?_, fun hv => ⟨hv.1, fun m hm => ?_⟩⟩
    · show insK p.ins + lnsK (p.lns ++ [⟨nm, pl, its⟩]) ≤ _
      rw [lnsK_app]
      have e : lnsK [⟨nm, pl, its⟩] = (if nm = [] then 1 else 2) + pt.tk + 1 := by
        unfold lnsK
        simp [lnK, seg_exK i1]
      rw [e]
      unfold pgK
      rcases hnm with ⟨h5, h6⟩ | ⟨h5, h6⟩
      · rw [if_pos h5]; omega
      · rw [if_neg (by rintro rfl; exact absurd h5 (by decide))]; omega
    · rcases List.mem_append.1 hm with hm | hm
      · exact hv.2 m hm
      · simp only [List.mem_singleton] at hm
        subst hm
        rcases hnm with ⟨h5, h6⟩ | ⟨h5, h6⟩
        · exact .inl ⟨h5, _, seg_exprP i1 (k := 1) (by omega) (by omega) i3⟩
        · exact .inr ⟨h5, _, seg_exprP i1 (k := 2) (by omega) (by omega) i3⟩
  unfold addR at h
  split at h
  · injection h with h; subst h; exact ⟨by omega, id⟩
  rename_i f r
  split at h
  · injection h with h; subst h; exact ⟨by omega, id⟩
  rename_i hk
  have her : Ends r := he.resolve_left fun h => hk h.2.1
  have h4r : E4 r := h4.suf (List.suffix_cons _ _)
  split at h
  · cases h
  split at h
  · cases h
  rename_i hl
  split at h
  · cases h
  split at h
  · unfold addInR at h
    split at h
    · cases h
    split at h
    · injection h with h; subst h; exact ⟨by omega, id⟩
    rename_i t r
    split at h
    · cases h
    rename_i htk
    split at h
    · cases h
    rename_i hnm
    split at h
    · cases h
    rename_i sd h2
    injection h with h
    subst h
    have hs := sides_short r.dropLast [] sd (fun x hx => (hT x (List.mem_cons_of_mem _ (List.mem_cons_of_mem _ (List.dropLast_subset _ hx)))).1) (fun x hx => (hT x (List.mem_cons_of_mem _ (List.mem_cons_of_mem _ (List.dropLast_subset _ hx)))).2) (fun d hd => by cases hd) (by simp) h2
    have her2 : Ends r := her.resolve_left fun h => htk h.2.1
    have hp := her2.pos
    simp only [List.length_dropLast, List.length_nil] at hs
    refine ⟨?_, fun hv => ⟨fun x hx => ?_, hv.2⟩⟩
    · show insK (p.ins ++ [⟨t.w, t.a, sd⟩]) + lnsK p.lns ≤ _
      rw [insK_app]
      have e : insK [⟨t.w, t.a, sd⟩] = 3 + sd.length := by unfold insK; simp [inK]
      rw [e]
      unfold pgK
      simp only [List.length_cons]
      omega
    · rcases List.mem_append.1 hx with hx | hx
      · exact hv.1 x hx
      · simp only [List.mem_singleton] at hx
        subst hx
        exact ⟨by simpa using hnm, hs.2.1, hs.2.2⟩
  split at h
  · have := hln [] f.a r 1 her h4r (by omega) (.inl ⟨rfl, rfl⟩) h
    simp only [List.length_cons]
    exact ⟨by omega, this.2⟩
  split at h
  · cases h
  rename_i hnm
  split at h
  · cases h
  rename_i hcol
  cases r with
  | nil => exact her.elim
  | cons g r =>
    have her2 : Ends r := her.resolve_left fun h => hcol (by simp [h.2.2])
    simp only [List.length_cons] at hl
    have := hln f.w f.a r 2 her2 (h4r.suf (List.suffix_cons _ _)) (by omega) (.inr ⟨by simpa using hnm, rfl⟩) h
    simp only [List.length_cons]
    exact ⟨by omega, this.2⟩
theorem lines_short : ∀ (n : Nat) (e : Int) (p q : Pg) (us : List Tk), us.length ≤ n → (∀ t ∈ us, Tok t ∧ (t.k = 3 → wordB t.w = false)) → (us ≠ [] → ∃ vs t, us = vs ++ [t] ∧ t.k = 4) → PgV p → linesR e p us = .ok q → PgV q ∧ pgK q ≤ pgK p + us.length := by
  intro n
  induction n with
  | zero =>
    intro e p q us h _ _ hp hq
    obtain rfl : us = [] := List.length_eq_zero_iff.1 (by omega)
    rw [lines_nil] at hq
    split at hq
    · injection hq with hq; subst hq; exact ⟨hp, by omega⟩
    · cases hq
  | succ n ih =>
    intro e p q us h hg hf hp hq
    cases us with
    | nil =>
      rw [lines_nil] at hq
      split at hq
      · injection hq with hq; subst hq; exact ⟨hp, by omega⟩
      · cases hq
    | cons f r =>
      obtain ⟨vs, t, e1, e2⟩ := hf (by simp)
      have hk := find_lt (us := f :: r) (e := t) (by rw [e1]; simp) e2
      have hgd : ∀ t ∈ f :: r, Gd t := fun t ht => tok_gd (hg t ht).1
      cases hx : addR p ((f :: r).take (cutAt (f :: r))) with
      | err a c => rw [lines_err hx] at hq; cases hq
      | ok p2 =>
        rw [lines_ok hx] at hq
        have ha := add_short (ends_take hk hgd) (fun t ht hk4 => ((hg t (List.mem_of_mem_take ht)).1.2.1 hk4).1) (fun t ht => hg t (List.mem_of_mem_take ht)) hx
        have hb := ih e p2 q _ (by simp [cutAt] at h ⊢; omega) (fun t ht => hg t (List.mem_of_mem_drop ht)) (fun hd => ?_) (ha.2 hp) hq
        · refine ⟨hb.1, ?_⟩
          have hlen : ((f :: r).take (cutAt (f :: r))).length + ((f :: r).drop (cutAt (f :: r))).length = (f :: r).length := by rw [← List.length_append, List.take_append_drop]
          have h6 : pgK p2 ≤ pgK p + ((f :: r).take (cutAt (f :: r))).length := ha.1
          have h7 := hb.2
          omega
        · rw [e1] at hd ⊢
          refine ⟨vs.drop (cutAt (vs ++ [t])), t, ?_, e2⟩
          rcases Nat.lt_or_ge (cutAt (vs ++ [t])) (vs ++ [t]).length with h5 | h5
          · rw [List.drop_append_of_le_length (by simp at h5; omega)]
          · exact (hd (List.drop_of_length_le h5)).elim
theorem lex_k3 {l : List UInt8} {ts : List Tk} (h : lexR l = .ok ts) : ∀ t ∈ ts, Tok t ∧ (t.k = 3 → wordB t.w = false) := by
  unfold lexR at h
  split at h
  · cases h
  · exact fun t ht => ⟨(lex_tokS _ l 0 (Nat.le_refl _) ts h).1 t ht, (lex_words _ l 0 (Nat.le_refl _) ts h t ht).2⟩
theorem pz_short {l : List UInt8} {q : Pg} (h : parseR l = .ok q) : ∃ ts, lexR l = .ok ts ∧ PgV q ∧ pgK q ≤ ts.length + 1 := by
  cases hx : lexR l with
  | err a c => rw [pz_bad hx] at h; cases h
  | ok ts =>
    rw [pz_ok hx] at h
    have := lines_short _ _ _ _ _ (Nat.le_refl _) (fun t ht => ?_) (fun _ => ⟨ts, _, rfl, rfl⟩) ⟨fun x hx => (by cases hx), fun x hx => (by cases hx)⟩ h
    · refine ⟨ts, rfl, this.1, ?_⟩
      have h2 := this.2
      simp only [List.length_append, List.length_cons, List.length_nil] at h2
      show pgK q ≤ _
      have h0 : pgK ⟨[], []⟩ = 0 := rfl
      omega
    · rcases List.mem_append.1 ht with ht | ht
      · exact lex_k3 hx t ht
      · simp only [List.mem_singleton] at ht
        subst ht
        exact ⟨⟨.inr (.inr (.inr rfl)), fun _ => ⟨rfl, rfl⟩, fun h => (by cases h), fun h => (by rcases h with h | h <;> cases h), (by simp)⟩, fun h => (by cases h)⟩
/-! ### the text of what is read -/
theorem sidesP_some : ∀ (sd : List (List UInt8 × Int)), (∀ d ∈ sd, okD d) → ∃ t, sidesP sd = some t
  | [], _ => ⟨[], rfl⟩
  | d :: r, h => by
    obtain ⟨t, ht⟩ := sidesP_some r fun x hx => h x (by simp [hx])
    unfold sidesP
    by_cases hn : d.1 = []
    · rw [if_pos hn, ht]; exact ⟨_, rfl⟩
    · rw [if_neg hn, if_pos ((h d (by simp)).resolve_left hn), ht]; exact ⟨_, rfl⟩
theorem insP_some : ∀ (xs : List Inp), (∀ x ∈ xs, InR x) → ∃ t, insP xs = some t
  | [], _ => ⟨[], rfl⟩
  | x :: r, h => by
    obtain ⟨t, ht⟩ := insP_some r fun y hy => h y (by simp [hy])
    obtain ⟨h1, h2, h3⟩ := h x (by simp)
    obtain ⟨u, hu⟩ := sidesP_some x.sd h3
    unfold insP inputP
    rw [if_neg (by rw [h1]; simp; omega), hu, ht]
    exact ⟨_, rfl⟩
theorem lnsP_some : ∀ (ls : List Ln), ls ≠ [] → (∀ m ∈ ls, LnR m) → (∀ i, (h : i < ls.length) → (nameB (ls[i]).nm = true ∨ (ls[i]).nm = [] ∧ i + 1 = ls.length)) → (∀ m, ls.getLast? = some m → m.nm = []) → ∃ t, lnsP ls = some t
  | [], h, _, _, _ => (h rfl).elim
  | [m], _, h, _, hl => by
    have hm := hl m rfl
    rcases h m (by simp) with ⟨_, s, hs⟩ | ⟨h2, _⟩
    · show ∃ t, (if m.nm = [] then (exprP m.its 1).map fun t => [111, 117, 116, 32] ++ t ++ [10] else none) = some t
      rw [if_pos hm, hs]; exact ⟨_, rfl⟩
    · rw [hm] at h2; exact absurd h2 (by decide)
  | m :: m2 :: r, _, h, hn, hl => by
    have h0 := hn 0 (by simp)
    have hnm : nameB m.nm = true := by
      rcases h0 with h0 | ⟨_, h0⟩
      · exact h0
      · simp at h0
    obtain ⟨t, ht⟩ := lnsP_some (m2 :: r) (by simp) (fun y hy => h y (by simp [hy])) (fun i hi => by
      have := hn (i + 1) (by simp at hi ⊢; omega)
      simp only [List.getElem_cons_succ, List.length_cons] at this ⊢
      rcases this with h1 | ⟨h1, h2⟩
      · exact .inl h1
      · exact .inr ⟨h1, by omega⟩) (fun y hy => hl y (by rw [List.getLast?_cons_cons]; exact hy))
    rcases h m (by simp) with ⟨h2, _⟩ | ⟨_, s, hs⟩
    · rw [h2] at hnm; exact absurd hnm (by decide)
    · show ∃ t, (if nameB m.nm = false then none else (exprP m.its 2).bind fun t => (lnsP (m2 :: r)).map fun u => m.nm ++ [58, 32] ++ t ++ 10 :: u) = some t
      rw [if_neg (by rw [hnm]; decide), hs, ht]; exact ⟨_, rfl⟩
/-- What is read may be. -/
theorem read_right {l : List UInt8} {q : Pg} (h : parseR l = .ok q) : ∃ s, textP q = some s := by
  obtain ⟨ts, _, hv, _⟩ := pz_short h
  obtain ⟨hp, hc⟩ := pz_flat h
  obtain ⟨hl, hlast⟩ := (compl_iff q).1 hc
  obtain ⟨t, ht⟩ := insP_some q.ins hv.1
  obtain ⟨u, hu⟩ := lnsP_some q.lns (by rintro e; rw [e] at hl; cases hl) hv.2 hp.nms (fun m hm => by
    rw [List.getLast?_eq_getElem?, List.getElem?_eq_getElem (by omega)] at hm
    injection hm with hm
    rw [← hm]; exact hlast)
  unfold textP
  have := hp.cnt
  rw [if_neg (by omega), ht, hu]
  exact ⟨_, rfl⟩
/-! ### how many tokens a text has -/
theorem ins_len : ∀ (xs : List Inp) (t : List UInt8), insP xs = some t → (∀ x ∈ xs, ∀ d ∈ x.sd, rng d.2) → ∀ (rest : List UInt8) (a : Int), ∃ TS, TS.length = insK xs ∧ lexL (t ++ rest) a = Rs.pre TS (lexL rest (a + t.length))
  | [], t, h, _, rest, a => by
    injection h with h
    subst h
    exact ⟨[], rfl, by rw [pre_nil]; simp⟩
  | x :: xs, t, h, hr, rest, a => by
    unfold insP at h
    obtain ⟨t1, h1, h2⟩ := Option.bind_eq_some_iff.1 h
    obtain ⟨t2, h3, rfl⟩ := Option.map_eq_some_iff.1 h2
    obtain ⟨i1, i2, i3, i4⟩ := inputP_ok h1 (hr x (by simp))
    obtain ⟨ts, hz, hlx⟩ := lex_ln i4 (t2 ++ rest) a
    obtain ⟨TS, j1, j2⟩ := ins_len xs t2 h3 (fun y hy => hr y (by simp [hy])) rest (a + t1.length + 1)
    have hl := congrArg List.length hz
    simp only [List.length_map, List.length_cons] at hl
    refine ⟨ts ++ [⟨4, a + t1.length, [], 0⟩] ++ TS, ?_, ?_⟩
    · have e : insK (x :: xs) = inK x + insK xs := by unfold insK; rw [List.map_cons, List.sum_cons]
      rw [e]
      simp only [List.length_append, List.length_cons, List.length_nil]
      unfold inK
      omega
    · rw [List.append_assoc, List.cons_append, hlx, j2, pre_pre, List.length_append, List.length_cons]
      congr 2
      omega
theorem lns_len : ∀ (ls : List Ln) (u : List UInt8), lnsP ls = some u → (∀ m ∈ ls, ∀ x ∈ m.its, ∀ n ∈ x.ns, rng n) → ∀ (a : Int), ∃ TS, TS.length = lnsK ls ∧ lexL u a = .ok TS
  | [], u, h, _, a => by cases h
  | [m], u, h, hr, a => by
    have h : (if m.nm = [] then (exprP m.its 1).map fun t => [111, 117, 116, 32] ++ t ++ [10] else none) = some u := h
    by_cases hm : m.nm = []
    · rw [if_pos hm] at h
      obtain ⟨t, h1, rfl⟩ := Option.map_eq_some_iff.1 h
      obtain ⟨p, T, hs, _, ht, hn, rfl⟩ := exprP_seg h1
      have hlx := lex_seg hs (hr m (by simp))
      have hout : LX [111, 117, 116] [outT 0] := LX.one rfl (by decide)
      have hall : LX ([111, 117, 116, 32] ++ p.s) (outT 0 :: T) := hout.cat hlx.bl (hard_bl _)
      obtain ⟨ts, hz, hl⟩ := lex_ln hall [] a
      rw [lex_nil] at hl
      have hlen := congrArg List.length hz
      simp only [List.length_map, List.length_cons] at hlen
      refine ⟨ts ++ [⟨4, a + ([111, 117, 116, 32] ++ p.s).length, [], 0⟩], ?_, ?_⟩
      · have e : lnsK [m] = 1 + p.tk + 1 := by unfold lnsK; simp [lnK, hm, seg_exK hs]
        rw [e, seg_len hs]
        simp only [List.length_append, List.length_cons, List.length_nil]
        omega
      · have e1 : [111, 117, 116, 32] ++ p.s ++ [10] = ([111, 117, 116, 32] ++ p.s) ++ 10 :: [] := rfl
        rw [e1, hl]
        simp [Rs.pre]
    · rw [if_neg hm] at h; cases h
  | m :: m2 :: r, u, h, hr, a => by
    have h : (if nameB m.nm = false then none else (exprP m.its 2).bind fun t => (lnsP (m2 :: r)).map fun u => m.nm ++ [58, 32] ++ t ++ 10 :: u) = some u := h
    by_cases hm : nameB m.nm = false
    · rw [if_pos hm] at h; cases h
    rw [if_neg hm] at h
    have hm : nameB m.nm = true := by simpa using hm
    obtain ⟨t, h1, h2⟩ := Option.bind_eq_some_iff.1 h
    obtain ⟨u2, h3, rfl⟩ := Option.map_eq_some_iff.1 h2
    obtain ⟨p, T, hs, _, ht, hn, rfl⟩ := exprP_seg h1
    have hlx := lex_seg hs (hr m (by simp))
    have hcl : LX [58] [⟨3, 0, [58], 0⟩] := LX.one rfl (by decide)
    have hall : LX (m.nm ++ [58, 32] ++ p.s) (⟨1, 0, m.nm, 0⟩ :: ⟨3, 0, [58], 0⟩ :: T) := by
      have := (lx_name (name_word hm)).cat (hcl.cat hlx.bl (hard_bl _)) (hard_sg (by decide) (by decide) (by decide) _)
      simpa [List.append_assoc] using this
    obtain ⟨ts, hz, hl⟩ := lex_ln hall u2 a
    have hlen := congrArg List.length hz
    simp only [List.length_map, List.length_cons] at hlen
    obtain ⟨TS, j1, j2⟩ := lns_len (m2 :: r) u2 h3 (fun y hy => hr y (by simp [hy])) (a + (m.nm ++ [58, 32] ++ p.s).length + 1)
    refine ⟨ts ++ [⟨4, a + (m.nm ++ [58, 32] ++ p.s).length, [], 0⟩] ++ TS, ?_, by rw [hl, j2]; rfl⟩
    have e : lnsK (m :: m2 :: r) = lnK m + lnsK (m2 :: r) := by unfold lnsK; rw [List.map_cons, List.sum_cons]
    have hne : m.nm ≠ [] := by rintro e; rw [e] at hm; exact absurd hm (by decide)
    have e2 : lnK m = 2 + p.tk + 1 := by unfold lnK; rw [if_neg hne, seg_exK hs]
    rw [e, e2, seg_len hs]
    simp only [List.length_append, List.length_cons, List.length_nil]
    omega
theorem text_len {p : Pg} {s : List UInt8} (h : textP p = some s) (hr : PgR p) : ∃ TS, lexL s 0 = .ok TS ∧ TS.length = pgK p := by
  unfold textP at h
  split at h
  · cases h
  obtain ⟨t, h1, h2⟩ := Option.bind_eq_some_iff.1 h
  obtain ⟨u, h3, rfl⟩ := Option.map_eq_some_iff.1 h2
  obtain ⟨US, k1, k2⟩ := lns_len p.lns u h3 hr.1 (0 + t.length)
  obtain ⟨TS, j1, j2⟩ := ins_len p.ins t h1 hr.2 u 0
  refine ⟨TS ++ US, by rw [j2, k2]; rfl, by rw [List.length_append, j1, k1]; rfl⟩
/-- No more tokens than any text that is read as it. -/
theorem read_short {l s : List UInt8} {q : Pg} (h : parseR l = .ok q) (hs : textP q = some s) (hr : PgR q) : ∃ a b, lexL (l ++ [10]) 0 = .ok a ∧ lexL s 0 = .ok b ∧ b.length ≤ a.length := by
  obtain ⟨ts, hx, _, hk⟩ := pz_short h
  obtain ⟨b, hb1, hb2⟩ := text_len hs hr
  have hx0 : lexL l 0 = .ok ts := by
    unfold lexR at hx
    split at hx
    · cases hx
    · exact hx
  have := lex_join hx0 (lex_nil 0)
  exact ⟨_, b, this, hb1, by simp; omega⟩
end Go.Proofs.YtbapgdhcbfpdoaaGreatDoor
/- Texts hang on no places; what the laws ask. Pure. -/
namespace Go.Proofs.YtbapgdhcbfpdoaaGreatDoor
open Go.RowKit
theorem stepP_z (st : List Pt) (x : It) : stepP st (zI x) = stepP st x := rfl
theorem runP_z : ∀ (l : List It) (st : List Pt), runP (l.map zI) st = runP l st
  | [], _ => rfl
  | x :: l, st => by
    show (stepP st (zI x)).bind (runP (l.map zI)) = (stepP st x).bind (runP l)
    rw [stepP_z, funext fun s => runP_z l s]
theorem exprP_z (l : List It) (k : Nat) : exprP (l.map zI) k = exprP l k := by
  unfold exprP
  rw [List.length_map, runP_z]
theorem insP_z : ∀ l : List Inp, insP (l.map zN) = insP l
  | [] => rfl
  | x :: l => by
    show (inputP (zN x)).bind (fun t => (insP (l.map zN)).map fun u => t ++ 10 :: u) = _
    rw [insP_z l]; rfl
theorem lnsP_z : ∀ l : List Ln, lnsP (l.map zL) = lnsP l
  | [] => rfl
  | [m] => by
    show (if m.nm = [] then (exprP (m.its.map zI) 1).map fun t => [111, 117, 116, 32] ++ t ++ [10] else none) = _
    rw [exprP_z]; rfl
  | m :: m2 :: r => by
    show (if nameB m.nm = false then none else (exprP (m.its.map zI) 2).bind fun t => (lnsP ((m2 :: r).map zL)).map fun u => m.nm ++ [58, 32] ++ t ++ 10 :: u) = _
    rw [exprP_z, lnsP_z (m2 :: r)]; rfl
theorem textP_z (p : Pg) : textP (zP p) = textP p := by
  unfold textP zP
  simp only [List.length_map, insP_z, lnsP_z]
theorem textP_alike {p q : Pg} (h : zP p = zP q) : textP p = textP q := by rw [← textP_z p, h, textP_z]
theorem showP_alike {p q : Pg} (h : zP p = zP q) : showP p = showP q := by unfold showP; rw [textP_alike h]
theorem showP_ok {p : Pg} {s : List UInt8} (h : showP p = (s, 0)) : textP p = some s ∧ s.length ≤ 65536 := by
  unfold showP at h
  split at h
  · cases h
  · rename_i t ht
    split at h
    · cases h
    · injection h with h1 h2
      subst h1
      exact ⟨ht, by omega⟩
theorem showP_cases (p : Pg) : (textP p = none ∧ showP p = ([], 50)) ∨ (∃ s, textP p = some s ∧ 65536 < s.length ∧ showP p = ([], 30)) ∨ ∃ s, textP p = some s ∧ s.length ≤ 65536 ∧ showP p = (s, 0) := by
  unfold showP
  cases h : textP p with
  | none => exact .inl ⟨rfl, rfl⟩
  | some s =>
    simp only
    by_cases hl : 65536 < s.length
    · rw [if_pos hl]; exact .inr (.inl ⟨s, rfl, hl, rfl⟩)
    · rw [if_neg hl]; exact .inr (.inr ⟨s, rfl, by omega, rfl⟩)
/-- P5.2. -/
theorem unlike {p q : Pg} {s t : List UInt8} (hp : showP p = (s, 0)) (hq : showP q = (t, 0)) (rp : PgR p) (rq : PgR q) : s = t ↔ zP p = zP q := by
  obtain ⟨h1, h2⟩ := showP_ok hp
  obtain ⟨h3, h4⟩ := showP_ok hq
  constructor
  · rintro rfl
    obtain ⟨x, hx, ex⟩ := show_back h1 rp h2
    obtain ⟨y, hy, ey⟩ := show_back h3 rq h4
    rw [hx] at hy
    injection hy with hy
    rw [← ex, ← ey, hy]
  · intro h
    have := textP_alike h
    rw [h1, h3] at this
    injection this
/-- P5.3. -/
theorem read_show {l : List UInt8} {p : Pg} (h : parseR l = .ok p) (hr : PgR p) : (∃ s, textP p = some s ∧ 65536 < s.length ∧ showP p = ([], 30)) ∨ ∃ s q, showP p = (s, 0) ∧ parseR s = .ok q ∧ zP q = zP p ∧ showP q = (s, 0) := by
  obtain ⟨s, hs⟩ := read_right h
  rcases showP_cases p with ⟨h1, _⟩ | h1 | ⟨s', h1, h2, h3⟩
  · rw [h1] at hs; cases hs
  · exact .inl h1
  · obtain ⟨q, hq, hz⟩ := show_back h1 hr h2
    exact .inr ⟨s', q, h3, hq, hz, by rw [showP_alike hz, h3]⟩
theorem right_empty : textP ⟨[], []⟩ = none := rfl
/-- Numbers that are lexed are in range. -/
theorem numR_rng {neg : Bool} {ds : List UInt8} {v : Int} (h : numR neg ds = some v) : rng v := by
  unfold numR at h
  unfold rng
  split at h
  · split at h
    · injection h with h; omega
    · cases h
  · split at h
    · injection h with h; omega
    · cases h
theorem piece_rng {b : UInt8} {r : List UInt8} {kd v : Int} {w : List UInt8} {k : Nat} (h : piece b r = .tok kd w v k) : rng v := by
  have hnum : ∀ {neg : Bool} {ds : List UInt8} {j : Nat}, numP (numR neg ds) j = .tok kd w v k → rng v := by
    intro neg ds j hp
    cases hn : numR neg ds with
    | none => rw [hn] at hp; cases hp
    | some x =>
      rw [hn] at hp
      injection hp with _ _ h3
      subst h3
      exact numR_rng hn
  have hz : rng 0 := by unfold rng; omega
  unfold piece at h
  split at h
  · cases h
  split at h
  · cases h
  split at h
  · injection h with _ _ h3; subst h3; exact hz
  split at h
  · split at h
    · cases h
    · injection h with _ _ h3; subst h3; exact hz
  split at h
  · exact hnum h
  split at h
  · exact hnum h
  split at h
  · injection h with _ _ h3; subst h3; exact hz
  split at h
  · injection h with _ _ h3; subst h3; exact hz
  · cases h
theorem lex_rng : ∀ (n : Nat) (l : List UInt8) (a : Int), l.length ≤ n → ∀ ts, lexL l a = .ok ts → ∀ t ∈ ts, rng t.n := by
  intro n
  induction n with
  | zero =>
    intro l a hl ts h
    obtain rfl : l = [] := List.length_eq_zero_iff.1 (by omega)
    rw [lex_nil] at h; injection h with h; subst h
    exact fun t ht => by simp at ht
  | succ n ih =>
    intro l a hl ts h
    cases l with
    | nil => rw [lex_nil] at h; injection h with h; subst h; exact fun t ht => by simp at ht
    | cons b r =>
      simp at hl
      cases hp : piece b r with
      | skip k =>
        rw [lex_skip hp] at h
        exact ih _ _ (by rw [List.length_drop]; omega) _ h
      | tok kd w v k =>
        rw [lex_tok hp] at h
        obtain ⟨vs, hv, rfl⟩ := pre_ok h
        have h1 := ih _ _ (by rw [List.length_drop]; omega) _ hv
        intro t ht
        simp only [List.cons_append, List.nil_append, List.mem_cons] at ht
        rcases ht with rfl | ht
        · exact piece_rng hp
        · exact h1 t ht
      | bad e => rw [lex_bad hp] at h; cases h
theorem nums_mem (r : List Tk) : ∀ n ∈ numsOf r, ∃ t ∈ r, t.n = n := by
  intro n hn
  obtain ⟨t, ht, rfl⟩ := List.mem_map.1 hn
  exact ⟨t, (List.takeWhile_sublist _).subset ht, rfl⟩
/-- All numbers of what is read are. -/
theorem mrun_rng : ∀ (n : Nat) (ts : List Tk) (b : Bool) (l : List It) (s : List (Option It)) (x : List It), ts.length ≤ n → (∀ t ∈ ts, rng t.n) → (∀ y ∈ l, ∀ k ∈ y.ns, rng k) → (∀ y ∈ s, ∀ z, y = some z → ∀ k ∈ z.ns, rng k) → mrun ts b l s = .ok x → ∀ y ∈ x, ∀ k ∈ y.ns, rng k := by
  intro n
  induction n with
  | zero =>
    intro ts b l s x hl _ h1 h2 h
    obtain rfl : ts = [] := List.length_eq_zero_iff.1 (by omega)
    rw [mrun] at h
    injection h with h; subst h; exact h1
  | succ n ih =>
    intro ts b l s x hl ht h1 h2 h
    cases ts with
    | nil => rw [mrun] at h; injection h with h; subst h; exact h1
    | cons t r =>
      simp only [List.length_cons] at hl
      have hset := settle_all (P := fun y => ∀ k ∈ y.ns, rng k) s l h1 h2
      have htr : ∀ u ∈ r, rng u.n := fun u hu => ht u (by simp [hu])
      rw [mrun_cons] at h
      split at h
      · split at h
        · cases h
        · have := mk_len r
          exact ih _ _ _ _ _ (by omega) (fun u hu => htr u ((mk_suf r).subset hu)) h1 (fun y hy z hz => by
            rcases List.mem_cons.1 hy with rfl | hy
            · injection hz with hz; subst hz; intro k hk; cases hk
            · exact h2 y hy z hz) h
      split at h
      · split at h
        · have := past_len r
          exact ih _ _ _ _ _ (by omega) (fun u hu => htr u ((past_suf r).subset hu)) (fun y hy => by
            rcases List.mem_append.1 hy with hy | hy
            · exact h1 y hy
            · simp only [List.mem_singleton] at hy
              subst hy
              intro k hk
              rcases List.mem_cons.1 hk with rfl | hk
              · exact ht t (by simp)
              · obtain ⟨u, hu, rfl⟩ := nums_mem r k hk
                exact htr u hu) h2 h
        split at h
        · exact ih _ _ _ _ _ (by omega) htr (fun y hy => by
            rcases List.mem_append.1 hy with hy | hy
            · exact h1 y hy
            · simp only [List.mem_singleton] at hy
              subst hy
              intro k hk; cases hk) h2 h
        split at h
        · split at h
          · cases h
          · exact ih _ _ _ _ _ (by omega) htr h1 (fun y hy z hz => by
              rcases List.mem_cons.1 hy with rfl | hy
              · cases hz
              · exact h2 y hy z hz) h
        split at h <;> cases h
      split at h
      · split at h
        · cases h
        · injection h with h; subst h; exact hset.1
      split at h
      · exact ih _ _ _ _ _ (by omega) htr hset.1 hset.2 h
      · cases h
theorem expr_rng {ts : List Tk} {x : List It} (h : exprR ts = .ok x) (ht : ∀ t ∈ ts, rng t.n) : ∀ y ∈ x, ∀ k ∈ y.ns, rng k := mrun_rng _ ts false [] [] x (Nat.le_refl _) ht (fun y hy => by cases hy) (fun y hy => by cases hy) h
theorem sides_rng : ∀ (us : List Tk) (l sd : List (List UInt8 × Int)), (∀ t ∈ us, rng t.n) → (∀ d ∈ l, rng d.2) → sidesR us l = .ok sd → ∀ d ∈ sd, rng d.2
  | [], l, sd, _, h2, h => by rw [sidesR] at h; injection h with h; subst h; exact h2
  | t :: us, l, sd, h1, h2, h => by
    rw [sidesR] at h
    split at h
    · cases h
    split at h
    · cases h
    exact sides_rng us _ sd (fun x hx => h1 x (by simp [hx])) (fun d hd => by
      rcases List.mem_append.1 hd with hd | hd
      · exact h2 d hd
      · simp only [List.mem_singleton] at hd; subst hd; exact h1 t (by simp)) h
theorem add_rng {p q : Pg} {ts : List Tk} (ht : ∀ t ∈ ts, rng t.n) (hp : PgR p) (h : addR p ts = .ok q) : PgR q := by
  have hln : ∀ (nm : List UInt8) (pl : Int) (us : List Tk), (∀ t ∈ us, rng t.n) → addLnR p nm pl us = .ok q → PgR q := by
    intro nm pl us hu h1
    unfold addLnR at h1
    split at h1
    · cases h1
    rename_i its h2
    injection h1 with h1
    subst h1
    refine ⟨fun m hm => ?_, hp.2⟩
    rcases List.mem_append.1 hm with hm | hm
    · exact hp.1 m hm
    · simp only [List.mem_singleton] at hm; subst hm; exact expr_rng h2 hu
  unfold addR at h
  split at h
  · injection h with h; subst h; exact hp
  rename_i f r
  have hr : ∀ t ∈ r, rng t.n := fun t h => ht t (by simp [h])
  split at h
  · injection h with h; subst h; exact hp
  rename_i hk
  split at h
  · cases h
  rename_i hcc
  split at h
  · cases h
  rename_i hl
  split at h
  · cases h
  rename_i hcp
  split at h
  · rename_i hin
    unfold addInR at h
    split at h
    · cases h
    rename_i hpl
    split at h
    · injection h with h; subst h; exact hp
    rename_i t r
    split at h
    · cases h
    split at h
    · cases h
    split at h
    · cases h
    rename_i sd h2
    injection h with h
    subst h
    refine ⟨hp.1, fun x hx => ?_⟩
    rcases List.mem_append.1 hx with hx | hx
    · exact hp.2 x hx
    · simp only [List.mem_singleton] at hx
      subst hx
      exact sides_rng r.dropLast [] sd (fun t h => hr t (List.mem_cons_of_mem _ (List.dropLast_subset _ h))) (fun d hd => by cases hd) h2
  split at h
  · exact hln _ _ _ hr h
  split at h
  · cases h
  split at h
  · cases h
  exact hln _ _ _ (fun t h => hr t (List.mem_of_mem_drop h)) h
theorem lines_rng : ∀ (n : Nat) (e : Int) (p q : Pg) (us : List Tk), us.length ≤ n → (∀ t ∈ us, rng t.n) → PgR p → linesR e p us = .ok q → PgR q := by
  intro n
  induction n with
  | zero =>
    intro e p q us h _ hp hq
    obtain rfl : us = [] := List.length_eq_zero_iff.1 (by omega)
    rw [lines_nil] at hq
    split at hq
    · injection hq with hq; subst hq; exact hp
    · cases hq
  | succ n ih =>
    intro e p q us h hg hp hq
    cases us with
    | nil =>
      rw [lines_nil] at hq
      split at hq
      · injection hq with hq; subst hq; exact hp
      · cases hq
    | cons f r =>
      cases hx : addR p ((f :: r).take (cutAt (f :: r))) with
      | err a c => rw [lines_err hx] at hq; cases hq
      | ok p2 =>
        rw [lines_ok hx] at hq
        exact ih e p2 q _ (by simp [cutAt] at h ⊢; omega) (fun t ht => hg t (List.mem_of_mem_drop ht)) (add_rng (fun t ht => hg t (List.mem_of_mem_take ht)) hp hx) hq
/-- What is read has numbers in range. -/
theorem pz_rng {l : List UInt8} {q : Pg} (h : parseR l = .ok q) : PgR q := by
  cases hx : lexR l with
  | err a c => rw [pz_bad hx] at h; cases h
  | ok ts =>
    rw [pz_ok hx] at h
    have hx0 : lexL l 0 = .ok ts := by
      unfold lexR at hx
      split at hx
      · cases hx
      · exact hx
    refine lines_rng _ _ _ _ _ (Nat.le_refl _) (fun t ht => ?_) ⟨fun m hm => (by cases hm), fun x hx => (by cases hx)⟩ h
    rcases List.mem_append.1 ht with ht | ht
    · exact lex_rng _ l 0 (Nat.le_refl _) ts hx0 t ht
    · simp only [List.mem_singleton] at ht
      subst ht
      show rng 0
      unfold rng; omega
end Go.Proofs.YtbapgdhcbfpdoaaGreatDoor
