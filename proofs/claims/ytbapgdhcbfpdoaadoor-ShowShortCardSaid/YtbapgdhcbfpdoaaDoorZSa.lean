/- Layer 4, put together: ShwM, ShwA, ShwB. -/
import Derived.Test.YtbapgdhcbfpdoaaDoorZPq
import Derived.Test.YtbapgdhcbfpdoaaDoorZPg
import Derived.Test.YtbapgdhcbfpdoaaDoorZLd
/- Programs as texts, the document's way, over plain lists. -/
namespace Go.Proofs.YtbapgdhcbfpdoaaDoor
open Go.RowKit
/-- A value's text, whether it is an operand, its tokens, its brackets that are open at one time. -/
structure Pt where
  s : List UInt8
  pl : Bool
  tk : Nat
  ne : Nat
deriving DecidableEq, Inhabited
def wordsL : List (List UInt8) := [[43], [45], [42], [37], [124], [109, 105, 110], [109, 97, 120], [61], [126], [60], [60, 61], [62, 61], [62], [97, 110, 100], [111, 114], [112, 111, 119], [114, 104, 111], [116, 97, 107, 101], [100, 114, 111, 112], [99, 97, 116], [105, 111, 116, 97], [115, 104, 97, 112, 101], [114, 97, 118, 101, 108], [114, 101, 118], [116, 117, 114, 110]]
def verbIn : List (List UInt8) → Int → Bool → List UInt8
  | [], _, _ => []
  | w :: r, f, two => if (verbR w two != 0) && (verbR w two == f) then w else verbIn r f two
/-- A verb's text; none: empty. -/
def verbW (f : Int) (two : Bool) : List UInt8 := verbIn wordsL f two
def numsT : List Int → List UInt8
  | [] => []
  | [n] => digs n
  | n :: m :: r => digs n ++ 32 :: numsT (m :: r)
def opdP (x : It) : Pt :=
  if x.fn ≠ 0 then ⟨[], false, 0, 0⟩
  else if x.how = 2 then (if 0 < x.ns.length ∨ nameB x.nm = false then ⟨[], false, 0, 0⟩ else ⟨x.nm, true, 1, 0⟩)
  else if x.nm ≠ [] ∨ 256 < x.ns.length then ⟨[], false, 0, 0⟩ else ⟨numsT x.ns, true, x.ns.length, 0⟩
def brkP (p : Pt) : Pt := if p.pl then p else ⟨40 :: (p.s ++ [41]), false, p.tk + 2, p.ne + 1⟩
def markW (how : Int) : List UInt8 := if how = 5 then [47] else if how = 6 then [92] else if how = 7 then [46] else []
def twoI (x : It) : Bool := decide (x.how = 4 ∨ x.how = 7)
/-- Is an item that is no operand well made, places and values apart? -/
def okI (x : It) : Bool := decide (3 ≤ x.how ∧ x.how ≤ 7 ∧ x.ns = [] ∧ x.nm = [] ∧ verbW x.fn (x.how != 3) ≠ []) && ((x.how == 3) || (x.how == 4) || tk2 x.fn)
def monP (x : It) (p : Pt) : Pt := ⟨verbW x.fn (x.how != 3) ++ markW x.how ++ 32 :: p.s, false, (if x.how = 3 ∨ x.how = 4 then 1 else 2) + p.tk, p.ne⟩
def dyP (x : It) (p q : Pt) : Pt := ⟨(brkP p).s ++ 32 :: (verbW x.fn (x.how != 3) ++ markW x.how ++ 32 :: q.s), false, (brkP p).tk + (if x.how = 3 ∨ x.how = 4 then 1 else 2) + q.tk, max (brkP p).ne q.ne⟩
/-- The values' texts, the last one first, behind an item. -/
def stepP (l : List Pt) (x : It) : Option (List Pt) :=
  if x.how = 1 ∨ x.how = 2 then (if 0 < (opdP x).tk then some (opdP x :: l) else none)
  else if okI x = false then none
  else if twoI x then (match l with
    | q :: p :: r => some (dyP x p q :: r)
    | _ => none)
  else match l with
    | p :: r => some (monP x p :: r)
    | [] => none
def runP : List It → List Pt → Option (List Pt)
  | [], l => some l
  | x :: r, l => (stepP l x).bind (runP r)
def exprP (l : List It) (ahead : Nat) : Option (List UInt8) :=
  if 256 < l.length then none else match runP l [] with
    | some [p] => if 256 < p.tk + ahead ∨ 32 < p.ne then none else some p.s
    | _ => none
def sidesP : List (List UInt8 × Int) → Option (List UInt8)
  | [] => some []
  | d :: r => if d.1 = [] then (sidesP r).map fun t => 32 :: (digs d.2 ++ t)
    else if d.2 = 0 ∧ nameB d.1 = true then (sidesP r).map fun t => 32 :: (d.1 ++ t)
    else none
def inputP (x : Inp) : Option (List UInt8) :=
  if nameB x.nm = false ∨ 4 < x.sd.length then none else (sidesP x.sd).map fun t => [105, 110, 32] ++ x.nm ++ t
def insP : List Inp → Option (List UInt8)
  | [] => some []
  | x :: r => (inputP x).bind fun t => (insP r).map fun u => t ++ 10 :: u
def lnsP : List Ln → Option (List UInt8)
  | [] => none
  | [m] => if m.nm = [] then (exprP m.its 1).map fun t => [111, 117, 116, 32] ++ t ++ [10] else none
  | m :: r => if nameB m.nm = false then none else (exprP m.its 2).bind fun t => (lnsP r).map fun u => m.nm ++ [58, 32] ++ t ++ 10 :: u
/-- A program's text, if it may be. -/
def textP (p : Pg) : Option (List UInt8) := if 64 < p.ins.length + p.lns.length then none else (insP p.ins).bind fun t => (lnsP p.lns).map fun u => t ++ u
def rightP (p : Pg) : Bool := (textP p).isSome
def showP (p : Pg) : List UInt8 × Int := match textP p with
  | none => ([], 50)
  | some s => if 65536 < s.length then ([], 30) else (s, 0)

/-! ### segments -/
def wtok (w : List UInt8) : Tk := ⟨if wordB w then 1 else 3, 0, w, 0⟩
/-- A verb's tokens. -/
def vtok (x : It) : List Tk := wtok (verbW x.fn (x.how != 3)) :: (if x.how = 3 ∨ x.how = 4 then [] else [⟨3, 0, markW x.how, 0⟩])
def btok (p : Pt) (T : List Tk) : List Tk := if p.pl then T else ⟨3, 0, [40], 0⟩ :: (T ++ [⟨3, 0, [41], 0⟩])
/-- Items that leave one value, with its text and its tokens. -/
inductive Seg : List It → Pt → List Tk → Prop
  | num (x : It) (h1 : x.how = 1) (h2 : 0 < (opdP x).tk) : Seg [x] (opdP x) (x.ns.map fun n => ⟨2, 0, [], n⟩)
  | nam (x : It) (h1 : x.how = 2) (h2 : 0 < (opdP x).tk) : Seg [x] (opdP x) [⟨1, 0, x.nm, 0⟩]
  | mon (x : It) (l : List It) (p : Pt) (T : List Tk) (h : Seg l p T) (h1 : okI x = true) (h2 : twoI x = false) : Seg (l ++ [x]) (monP x p) (vtok x ++ T)
  | dy (x : It) (l m : List It) (p q : Pt) (T U : List Tk) (h : Seg l p T) (g : Seg m q U) (h1 : okI x = true) (h2 : twoI x = true) : Seg (l ++ m ++ [x]) (dyP x p q) (btok p T ++ vtok x ++ U)
theorem runP_app : ∀ (l m : List It) (st : List Pt), runP (l ++ m) st = (runP l st).bind (runP m)
  | [], m, st => rfl
  | x :: l, m, st => by
    show (stepP st x).bind (runP (l ++ m)) = ((stepP st x).bind (runP l)).bind (runP m)
    cases stepP st x with
    | none => rfl
    | some s => exact runP_app l m s
theorem seg_run {l : List It} {p : Pt} {T : List Tk} (h : Seg l p T) : ∀ st, runP l st = some (p :: st) := by
  induction h with
  | num x h1 h2 => intro st; simp [runP, stepP, h1, h2]
  | nam x h1 h2 => intro st; simp [runP, stepP, h1, h2]
  | mon x l p T _ h1 h2 ih =>
    intro st
    rw [runP_app, ih st]
    have hh : ¬ (x.how = 1 ∨ x.how = 2) := by unfold okI at h1; simp at h1; omega
    simp [runP, stepP, hh, h1, h2]
  | dy x l m p q T U _ _ h1 h2 ih ig =>
    intro st
    rw [runP_app, runP_app, ih st]
    simp only [Option.bind_some]
    rw [ig]
    have hh : ¬ (x.how = 1 ∨ x.how = 2) := by unfold okI at h1; simp at h1; omega
    simp [runP, stepP, hh, h1, h2]
/-- What a run leaves: a segment for each value. -/
inductive Segs : List It → List Pt → Prop
  | nil : Segs [] []
  | snoc (l : List It) (st : List Pt) (m : List It) (p : Pt) (T : List Tk) (h : Segs l st) (g : Seg m p T) : Segs (l ++ m) (p :: st)
theorem segs_step {l : List It} {st st' : List Pt} {x : It} (h : Segs l st) (hs : stepP st x = some st') : Segs (l ++ [x]) st' := by
  unfold stepP at hs
  split at hs
  · rename_i hh
    split at hs
    · rename_i hk
      injection hs with hs
      subst hs
      rcases hh with hh | hh
      · exact .snoc l st [x] _ _ h (.num x hh hk)
      · exact .snoc l st [x] _ _ h (.nam x hh hk)
    · cases hs
  split at hs
  · cases hs
  rename_i hok
  have hok : okI x = true := by simpa using hok
  split at hs
  · rename_i h2
    cases h with
    | nil => cases hs
    | snoc l0 st0 m p T h0 g =>
      cases h0 with
      | nil => cases hs
      | snoc l1 st1 m1 p1 T1 h1 g1 =>
        simp only [Option.some.injEq] at hs
        subst hs
        have := Segs.snoc l1 st1 _ _ _ h1 (.dy x m1 m p1 p T1 T g1 g hok h2)
        simpa [List.append_assoc] using this
  · rename_i h2
    have h2 : twoI x = false := by simpa using h2
    cases h with
    | nil => cases hs
    | snoc l0 st0 m p T h0 g =>
      simp only [Option.some.injEq] at hs
      subst hs
      have := Segs.snoc l0 st0 _ _ _ h0 (.mon x m p T g hok h2)
      simpa [List.append_assoc] using this
theorem segs_run : ∀ (l : List It) (l0 : List It) (st st' : List Pt), Segs l0 st → runP l st = some st' → Segs (l0 ++ l) st'
  | [], l0, st, st', h, hr => by
    simp only [runP, Option.some.injEq] at hr
    subst hr
    rwa [List.append_nil]
  | x :: l, l0, st, st', h, hr => by
    have hr : (stepP st x).bind (runP l) = some st' := hr
    cases hs : stepP st x with
    | none => rw [hs] at hr; cases hr
    | some s =>
      rw [hs] at hr
      have := segs_run l (l0 ++ [x]) s st' (segs_step h hs) hr
      simpa using this
theorem run_seg {l : List It} {p : Pt} (h : runP l [] = some [p]) : ∃ T, Seg l p T := by
  have := segs_run l [] [] [p] .nil h
  rw [List.nil_append] at this
  cases this with
  | snoc l0 st m p T h0 g =>
    cases h0
    exact ⟨T, g⟩
theorem exprP_seg {l : List It} {k : Nat} {s : List UInt8} (h : exprP l k = some s) : ∃ p T, Seg l p T ∧ l.length ≤ 256 ∧ p.tk + k ≤ 256 ∧ p.ne ≤ 32 ∧ s = p.s := by
  unfold exprP at h
  split at h
  · cases h
  · rename_i hl
    split at h
    · rename_i p hp
      split at h
      · cases h
      · rename_i hc
        injection h with h
        obtain ⟨T, hT⟩ := run_seg hp
        exact ⟨p, T, hT, by omega, by omega, by omega, h.symm⟩
    · cases h
theorem seg_exprP {l : List It} {p : Pt} {T : List Tk} (h : Seg l p T) {k : Nat} (hl : l.length ≤ 256) (ht : p.tk + k ≤ 256) (hn : p.ne ≤ 32) : exprP l k = some p.s := by
  unfold exprP
  rw [if_neg (by omega), seg_run h []]
  simp only
  rw [if_neg (by omega)]
end Go.Proofs.YtbapgdhcbfpdoaaDoor
/- The text of a segment is cut into its tokens. Pure. -/
namespace Go.Proofs.YtbapgdhcbfpdoaaDoor
open Go.RowKit
/-- A text without a note or a line's end is cut into these tokens, places apart. -/
def LX (s : List UInt8) (T : List Tk) : Prop := (∀ c ∈ s, c.toNat ≠ 35 ∧ c.toNat ≠ 10) ∧ ∃ ts, lexL s 0 = .ok ts ∧ ts.map zT = T
theorem LX.nil : LX [] [] := ⟨fun c h => (by cases h), [], lex_nil 0, rfl⟩
theorem LX.at {s : List UInt8} {T : List Tk} (h : LX s T) (a : Int) : ∃ ts, lexL s a = .ok ts ∧ ts.map zT = T := by
  obtain ⟨_, ts, h1, h2⟩ := h
  exact ⟨ts.map (mv a), lex_at4 a h1, by rw [mv_z, h2]⟩
theorem LX.cat {s t : List UInt8} {S T : List Tk} (h : LX s S) (g : LX t T) (hd : hard t) : LX (s ++ t) (S ++ T) := by
  obtain ⟨us, g1, g2⟩ := g.at (0 + s.length)
  obtain ⟨h0, ts, h1, h2⟩ := h
  refine ⟨fun c hc => (List.mem_append.1 hc).elim (h0 c) (g.1 c), ts ++ us, ?_, by rw [List.map_append, h2, g2]⟩
  rw [lex_beh s.length s 0 t (Nat.le_refl _) hd (.inr fun c hc => (h0 c hc).1), h1, g1]
  rfl
theorem LX.bl {t : List UInt8} {T : List Tk} (h : LX t T) : LX (32 :: t) T := by
  obtain ⟨us, g1, g2⟩ := h.at (0 + 1)
  refine ⟨fun c hc => ?_, us, by rw [lex_bl, g1], g2⟩
  rcases List.mem_cons.1 hc with rfl | hc
  · decide
  · exact h.1 c hc
theorem LX.op {t : List UInt8} {T : List Tk} (h : LX t T) : LX (40 :: t) (⟨3, 0, [40], 0⟩ :: T) := by
  obtain ⟨us, g1, g2⟩ := h.at (0 + 1)
  refine ⟨fun c hc => ?_, ⟨3, 0, [40], 0⟩ :: us, by rw [lex_sgn piece_open, g1]; rfl, by rw [List.map_cons, g2]; rfl⟩
  rcases List.mem_cons.1 hc with rfl | hc
  · decide
  · exact h.1 c hc
theorem lex_one {b : UInt8} {r : List UInt8} {kd v : Int} {w : List UInt8} (h : piece b r = .tok kd w v r.length) (a : Int) : lexL (b :: r) a = .ok [⟨kd, a, w, v⟩] := by
  rw [lex_tok h, List.drop_length, lex_nil]; rfl
theorem LX.one {b : UInt8} {r : List UInt8} {kd v : Int} {w : List UInt8} (h : piece b r = .tok kd w v r.length) (hc : ∀ c ∈ b :: r, c.toNat ≠ 35 ∧ c.toNat ≠ 10) : LX (b :: r) [⟨kd, 0, w, v⟩] := ⟨hc, _, lex_one h 0, rfl⟩
theorem hard_sg {b : UInt8} (h1 : digB b = false) (h2 : alnB b = false) (h3 : b ≠ 61) (x : List UInt8) : hard (b :: x) := ⟨fun c hc => by simp at hc; subst hc; exact h1, fun c hc => by simp at hc; subst hc; exact h2, by simpa using h3⟩
theorem lx_word {w : List UInt8} (h : w ∈ wordsL) : LX w [wtok w] := by
  simp only [wordsL, List.mem_cons, List.not_mem_nil, or_false] at h
  rcases h with rfl | rfl | rfl | rfl | rfl | rfl | rfl | rfl | rfl | rfl | rfl | rfl | rfl | rfl | rfl | rfl | rfl | rfl | rfl | rfl | rfl | rfl | rfl | rfl | rfl <;> exact LX.one rfl (by decide)
theorem lx_mark (how : Int) (h : ¬ (how = 3 ∨ how = 4)) (h2 : 3 ≤ how ∧ how ≤ 7) : LX (markW how) [⟨3, 0, markW how, 0⟩] ∧ ∀ x, hard (markW how ++ x) := by
  unfold markW
  by_cases h5 : how = 5
  · rw [if_pos h5]; exact ⟨LX.one rfl (by decide), fun x => hard_sg (by decide) (by decide) (by decide) _⟩
  rw [if_neg h5]
  by_cases h6 : how = 6
  · rw [if_pos h6]; exact ⟨LX.one rfl (by decide), fun x => hard_sg (by decide) (by decide) (by decide) _⟩
  rw [if_neg h6, if_pos (by omega)]
  exact ⟨LX.one rfl (by decide), fun x => hard_sg (by decide) (by decide) (by decide) _⟩
theorem let_no {b : UInt8} (h : letB b = true) : blB b = false ∧ b.toNat ≠ 35 ∧ b.toNat ≠ 10 := by
  unfold letB at h
  simp at h
  unfold blB
  simp
  omega
theorem aln_no {b : UInt8} (h : alnB b = true) : b.toNat ≠ 35 ∧ b.toNat ≠ 10 := by
  unfold alnB letB digB at h
  simp at h
  omega
theorem lx_name {w : List UInt8} (h : wordB w = true) : LX w [⟨1, 0, w, 0⟩] := by
  cases w with
  | nil => cases h
  | cons b r =>
    have h : (letB b && decide (run alnB r = r.length) && decide (r.length ≤ 15)) = true := h
    simp only [Bool.and_eq_true, decide_eq_true_eq] at h
    obtain ⟨⟨h1, h2⟩, h3⟩ := h
    obtain ⟨n1, n2, n3⟩ := let_no h1
    refine LX.one ?_ ?_
    · unfold piece
      rw [if_neg (by rw [n1]; decide), if_neg n2, if_neg n3, if_pos h1, h2, if_neg (by omega), List.take_length]
    · intro c hc
      rcases List.mem_cons.1 hc with rfl | hc
      · exact ⟨n2, n3⟩
      · have := run_all alnB r c (by rw [h2, List.take_length]; exact hc)
        exact aln_no this
theorem mag_snoc (l : List UInt8) (acc : Nat) (c : UInt8) : mag acc (l ++ [c]) = mag acc l * 10 + (c.toNat - 48) := by unfold mag; rw [List.foldl_append]; rfl
theorem mag_dec : ∀ (n u : Nat), u ≤ n → mag 0 (Lib.decDigits u) = u := by
  intro n
  induction n with
  | zero =>
    intro u hu
    obtain rfl : u = 0 := by omega
    rw [dec_last (by omega)]; rfl
  | succ n ih =>
    intro u hu
    by_cases h : 9 < u
    · rw [dec_step h, mag_snoc, ih (u / 10) (by omega)]
      have : (UInt8.ofNat (48 + u % 10)).toNat = 48 + u % 10 := by simp; omega
      rw [this]; omega
    · rw [dec_last h]
      show mag 0 ([] ++ [_]) = _
      rw [mag_snoc, mag_nil]
      have : (UInt8.ofNat (48 + u)).toNat = 48 + u := by simp; omega
      rw [this]; omega
theorem dig_no {b : UInt8} (h : digB b = true) : blB b = false ∧ b.toNat ≠ 35 ∧ b.toNat ≠ 10 ∧ letB b = false := by
  unfold digB at h
  simp at h
  unfold blB letB
  simp
  omega
def rng (n : Int) : Prop := -9223372036854775808 ≤ n ∧ n ≤ 9223372036854775807
theorem lx_num {n : Int} (h : rng n) : LX (digs n) [⟨2, 0, [], n⟩] := by
  have hd := dec_dig n.natAbs
  have hm := mag_dec n.natAbs n.natAbs (Nat.le_refl _)
  have hfull : ∀ l : List UInt8, (∀ c ∈ l, digB c = true) → run digB l = l.length := fun l hl => run_full digB l hl
  unfold digs
  by_cases h0 : n < 0
  · rw [if_pos h0]
    refine LX.one ?_ ?_
    · have hne := dec_ne n.natAbs
      have hp : 0 < run digB (Lib.decDigits n.natAbs) := by rw [hfull _ hd]; exact List.length_pos_iff.2 hne
      unfold piece
      rw [if_neg (by decide), if_neg (by decide), if_neg (by decide), if_neg (by decide), if_neg (by decide), if_pos ⟨by decide, hp⟩, hfull _ hd, List.take_length]
      unfold numR
      rw [if_pos rfl, hm, if_pos (by have := h.1; omega)]
      show Pc.tok 2 [] _ _ = _
      congr 1
      omega
    · intro c hc
      rcases List.mem_cons.1 hc with rfl | hc
      · decide
      · have := dig_no (hd c hc); exact ⟨this.2.1, this.2.2.1⟩
  · rw [if_neg h0]
    cases hl : Lib.decDigits n.natAbs with
    | nil => exact (dec_ne _ hl).elim
    | cons b r =>
      rw [hl] at hd hm
      obtain ⟨n1, n2, n3, n4⟩ := dig_no (hd b (by simp))
      refine LX.one ?_ ?_
      · unfold piece
        rw [if_neg (by rw [n1]; decide), if_neg n2, if_neg n3, if_neg (by rw [n4]; decide), if_pos (hd b (by simp)), hfull r (fun c hc => hd c (by simp [hc])), List.take_length]
        unfold numR
        rw [if_neg (by decide), hm, if_pos (by have := h.2; omega)]
        show Pc.tok 2 [] _ _ = _
        congr 1
        omega
      · intro c hc
        have := dig_no (hd c hc); exact ⟨this.2.1, this.2.2.1⟩
theorem lx_nums : ∀ (ns : List Int), (∀ n ∈ ns, rng n) → LX (numsT ns) (ns.map fun n => ⟨2, 0, [], n⟩)
  | [], _ => LX.nil
  | [n], h => lx_num (h n (by simp))
  | n :: m :: r, h => by
    have := (lx_num (h n (by simp))).cat (lx_nums (m :: r) fun k hk => h k (by simp [hk])).bl (hard_bl _)
    exact this
theorem verb_in : ∀ (l : List (List UInt8)) (f : Int) (two : Bool), verbIn l f two ≠ [] → verbIn l f two ∈ l ∧ verbR (verbIn l f two) two = f ∧ f ≠ 0
  | [], f, two, h => (h rfl).elim
  | w :: r, f, two, h => by
    unfold verbIn at h ⊢
    by_cases hc : ((verbR w two != 0) && (verbR w two == f)) = true
    · rw [if_pos hc]
      simp at hc
      exact ⟨by simp, hc.2, by rw [← hc.2]; exact hc.1⟩
    · rw [if_neg hc] at h ⊢
      have := verb_in r f two h
      exact ⟨by simp [this.1], this.2⟩
theorem okI_parts {x : It} (h : okI x = true) : 3 ≤ x.how ∧ x.how ≤ 7 ∧ x.ns = [] ∧ x.nm = [] ∧ verbW x.fn (x.how != 3) ∈ wordsL ∧ verbR (verbW x.fn (x.how != 3)) (x.how != 3) = x.fn ∧ x.fn ≠ 0 ∧ (x.how = 3 ∨ x.how = 4 ∨ tk2 x.fn = true) := by
  unfold okI at h
  simp only [Bool.and_eq_true, decide_eq_true_eq, Bool.or_eq_true, beq_iff_eq] at h
  obtain ⟨⟨h1, h2, h3, h4, h5⟩, h6⟩ := h
  have hv := verb_in wordsL x.fn (x.how != 3) h5
  exact ⟨h1, h2, h3, h4, hv.1, hv.2.1, hv.2.2, by rcases h6 with (h6 | h6) | h6; exact .inl h6; exact .inr (.inl h6); exact .inr (.inr h6)⟩
/-- A verb's text, with its mark, and a blank behind it. -/
theorem lx_verb {x : It} (h : okI x = true) {s : List UInt8} {T : List Tk} (hs : LX s T) : LX (verbW x.fn (x.how != 3) ++ markW x.how ++ 32 :: s) (vtok x ++ T) := by
  obtain ⟨h1, h2, _, _, h5, _⟩ := okI_parts h
  have hw := lx_word h5
  unfold vtok
  by_cases hh : x.how = 3 ∨ x.how = 4
  · rw [if_pos hh]
    have hm : markW x.how = [] := by unfold markW; rw [if_neg (by omega), if_neg (by omega), if_neg (by omega)]
    rw [hm, List.append_nil]
    exact hw.cat hs.bl (hard_bl _)
  · rw [if_neg hh]
    have hm := lx_mark x.how hh ⟨h1, h2⟩
    have := hw.cat (hm.1.cat hs.bl (hard_bl _)) (hm.2 _)
    simpa [List.append_assoc] using this
theorem lx_brk {p : Pt} {T : List Tk} (h : LX p.s T) : LX (brkP p).s (btok p T) := by
  unfold brkP btok
  cases hp : p.pl with
  | true => simpa using h
  | false =>
    have h41 : LX [41] [⟨3, 0, [41], 0⟩] := LX.one rfl (by decide)
    simpa using (h.cat h41 (hard_cl _)).op
theorem opd_num {x : It} (h1 : x.how = 1) (h2 : 0 < (opdP x).tk) : x.fn = 0 ∧ x.nm = [] ∧ opdP x = ⟨numsT x.ns, true, x.ns.length, 0⟩ ∧ 0 < x.ns.length ∧ x.ns.length ≤ 256 := by
  unfold opdP at h2 ⊢
  by_cases hf : x.fn ≠ 0
  · rw [if_pos hf] at h2; cases h2
  rw [if_neg hf, if_neg (by omega)] at h2 ⊢
  by_cases hn : x.nm ≠ [] ∨ 256 < x.ns.length
  · rw [if_pos hn] at h2; cases h2
  rw [if_neg hn] at h2 ⊢
  have h3 : x.nm = [] := by
    cases e : x.nm with
    | nil => rfl
    | cons a b => exact (hn (.inl (by rw [e]; simp))).elim
  exact ⟨by omega, h3, rfl, h2, by have : ¬ 256 < x.ns.length := fun e => hn (.inr e); omega⟩
theorem opd_nam {x : It} (h1 : x.how = 2) (h2 : 0 < (opdP x).tk) : x.fn = 0 ∧ x.ns = [] ∧ nameB x.nm = true ∧ opdP x = ⟨x.nm, true, 1, 0⟩ := by
  unfold opdP at h2 ⊢
  by_cases hf : x.fn ≠ 0
  · rw [if_pos hf] at h2; cases h2
  rw [if_neg hf, if_pos h1] at h2 ⊢
  by_cases hn : 0 < x.ns.length ∨ nameB x.nm = false
  · rw [if_pos hn] at h2; cases h2
  rw [if_neg hn] at h2 ⊢
  exact ⟨by omega, by cases e : x.ns with | nil => rfl | cons a b => exact (hn (.inl (by rw [e]; simp))).elim, by simpa using fun e => hn (.inr e), rfl⟩
theorem lex_seg {l : List It} {p : Pt} {T : List Tk} (h : Seg l p T) : (∀ x ∈ l, ∀ n ∈ x.ns, rng n) → LX p.s T := by
  induction h with
  | num x h1 h2 =>
    intro hr
    rw [(opd_num h1 h2).2.2.1]
    exact lx_nums _ (hr x (by simp))
  | nam x h1 h2 =>
    intro hr
    have e := opd_nam h1 h2
    rw [e.2.2.2]
    exact lx_name (name_word e.2.2.1)
  | mon x l p T _ h1 h2 ih =>
    intro hr
    exact lx_verb h1 (ih fun y hy => hr y (by simp [hy]))
  | dy x l m p q T U _ _ h1 h2 ih ig =>
    intro hr
    have hp := ih fun y hy => hr y (by simp [hy])
    have hq := ig fun y hy => hr y (by simp [hy])
    have := (lx_brk hp).cat (lx_verb h1 hq).bl (hard_bl _)
    simpa [dyP, List.append_assoc] using this
theorem seg_len {l : List It} {p : Pt} {T : List Tk} (h : Seg l p T) : p.tk = T.length := by
  induction h with
  | num x h1 h2 => rw [(opd_num h1 h2).2.2.1]; simp
  | nam x h1 h2 => rw [(opd_nam h1 h2).2.2.2]; rfl
  | mon x l p T _ h1 h2 ih =>
    unfold monP vtok
    rw [List.length_append]
    by_cases hh : x.how = 3 ∨ x.how = 4
    · simp only [if_pos hh]; simp [ih]
    · simp only [if_neg hh]; simp [ih]
  | dy x l m p q T U _ _ h1 h2 ih ig =>
    unfold dyP vtok brkP btok
    cases hp : p.pl <;> by_cases hh : x.how = 3 ∨ x.how = 4 <;> simp [hh, ih, ig] <;> omega
end Go.Proofs.YtbapgdhcbfpdoaaDoor
/- A segment's tokens are read as its items. Pure. -/
namespace Go.Proofs.YtbapgdhcbfpdoaaDoor
open Go.RowKit
def nomark (t : Tk) : Prop := t.w ≠ [47] ∧ t.w ≠ [92] ∧ t.w ≠ [46]
theorem mk_at {t : Tk} (h : nomark t) (r : List Tk) : mk (t :: r) = ([], t :: r) := by
  rw [mk_c, if_neg (by unfold nomark at h; simp [h])]
theorem word_nomark {w : List UInt8} (h : w ∈ wordsL) : w ≠ [47] ∧ w ≠ [92] ∧ w ≠ [46] ∧ w ≠ [41] := by
  simp only [wordsL, List.mem_cons, List.not_mem_nil, or_false] at h
  rcases h with rfl | rfl | rfl | rfl | rfl | rfl | rfl | rfl | rfl | rfl | rfl | rfl | rfl | rfl | rfl | rfl | rfl | rfl | rfl | rfl | rfl | rfl | rfl | rfl | rfl <;> decide
theorem name_nomark {w : List UInt8} (h : nameB w = true) : w ≠ [47] ∧ w ≠ [92] ∧ w ≠ [46] ∧ w ≠ [41] ∧ w ≠ [40] ∧ vb w = false := by
  refine ⟨?_, ?_, ?_, ?_, ?_, ?_⟩
  · rintro rfl; exact absurd h (by decide)
  · rintro rfl; exact absurd h (by decide)
  · rintro rfl; exact absurd h (by decide)
  · rintro rfl; exact absurd h (by decide)
  · rintro rfl; exact absurd h (by decide)
  · unfold nameB at h
    simp only [Bool.and_eq_true, Bool.not_eq_true'] at h
    exact h.1.1.2
theorem vtok_cons (x : It) : ∃ m, vtok x = wtok (verbW x.fn (x.how != 3)) :: m := ⟨_, rfl⟩
theorem btok_cons (p : Pt) (T : List Tk) : p.pl = false → btok p T = ⟨3, 0, [40], 0⟩ :: (T ++ [⟨3, 0, [41], 0⟩]) := fun h => by unfold btok; rw [h]; rfl
/-- How a segment begins. -/
theorem seg_head {l : List It} {p : Pt} {T : List Tk} (h : Seg l p T) : ∃ t r, T = t :: r ∧ nomark t ∧ t.w ≠ [41] := by
  induction h with
  | num x h1 h2 =>
    have := (opd_num h1 h2).2.2.2.1
    cases e : x.ns with
    | nil => rw [e] at this; cases this
    | cons n r => exact ⟨_, _, rfl, ⟨by simp, by simp, by simp⟩, by simp⟩
  | nam x h1 h2 =>
    have := name_nomark (opd_nam h1 h2).2.2.1
    exact ⟨_, _, rfl, ⟨this.1, this.2.1, this.2.2.1⟩, this.2.2.2.1⟩
  | mon x l p T _ h1 h2 ih =>
    have := word_nomark (okI_parts h1).2.2.2.2.1
    exact ⟨_, _, rfl, ⟨this.1, this.2.1, this.2.2.1⟩, this.2.2.2⟩
  | dy x l m p q T U _ _ h1 h2 ih ig =>
    cases hp : p.pl with
    | true =>
      obtain ⟨t, r, rfl, h3⟩ := ih
      exact ⟨t, _, by unfold btok; rw [hp]; rfl, h3⟩
    | false => exact ⟨_, _, by rw [btok_cons p T hp]; rfl, ⟨by simp, by simp, by simp⟩, by simp⟩
theorem nums_map : ∀ (ns : List Int) (u : Tk) (r : List Tk), u.k ≠ 2 → numsOf ((ns.map fun n => (⟨2, 0, [], n⟩ : Tk)) ++ u :: r) = ns ∧ pastNums ((ns.map fun n => (⟨2, 0, [], n⟩ : Tk)) ++ u :: r) = u :: r
  | [], u, r, h => ⟨nn_not h, pn_not h⟩
  | n :: ns, u, r, h => by
    have := nums_map ns u r h
    refine ⟨?_, ?_⟩
    · rw [List.map_cons, List.cons_append, nn_num rfl, this.1]
    · rw [List.map_cons, List.cons_append, pn_num rfl, this.2]
/-- A verb and its mark. -/
theorem phr_v {x : It} (h : okI x = true) {t : Tk} (ht : nomark t) (r : List Tk) : ∃ m, vtok x = wtok (verbW x.fn (x.how != 3)) :: m ∧ vb (verbW x.fn (x.how != 3)) = true ∧ mk (m ++ t :: r) = (markW x.how, t :: r) ∧ phR (verbW x.fn (x.how != 3)) (twoI x) (markW x.how) = (x.how, x.fn) ∧ m.length ≤ 1 ∧ (wtok (verbW x.fn (x.how != 3))).k ≠ 4 ∧ (wtok (verbW x.fn (x.how != 3))).k ≠ 2 := by
  obtain ⟨h1, h2, _, _, h5, h6, h7, h8⟩ := okI_parts h
  refine ⟨_, rfl, ?_, ?_, ?_, ?_, ?_, ?_⟩
  · unfold vb
    cases hb : (x.how != 3) with
    | false => rw [hb] at h6; rw [h6]; simp [h7]
    | true => rw [hb] at h6; rw [h6]; simp [h7]
  · by_cases hh : x.how = 3 ∨ x.how = 4
    · rw [if_pos hh, List.nil_append, mk_at ht]
      unfold markW; rw [if_neg (by omega), if_neg (by omega), if_neg (by omega)]
    · rw [if_neg hh]
      show mk (_ :: t :: r) = _
      rw [mk_c, if_pos]
      unfold markW
      by_cases h5 : x.how = 5
      · simp [h5]
      by_cases h6 : x.how = 6
      · simp [h6]
      have h7 : x.how = 7 := by omega
      simp [h7]
  · have hbt : ∀ w, verbR w true = x.fn → tk2 x.fn = true → betw w = x.fn := fun w hw hk => by
      unfold betw
      rw [hw, if_neg]
      unfold tk2 at hk
      simp at hk
      omega
    have hc : x.how = 3 ∨ x.how = 4 ∨ x.how = 5 ∨ x.how = 6 ∨ x.how = 7 := by omega
    rcases hc with hc | hc | hc | hc | hc
    · have e : (x.how != 3) = false := by rw [hc]; rfl
      rw [e] at h6 ⊢
      have e2 : twoI x = false := by unfold twoI; rw [hc]; rfl
      rw [e2]
      unfold phR markW
      simp [hc, h6]
    · have e : (x.how != 3) = true := by rw [hc]; rfl
      rw [e] at h6 ⊢
      have e2 : twoI x = true := by unfold twoI; rw [hc]; rfl
      rw [e2]
      unfold phR markW
      simp [hc, h6]
    · have e : (x.how != 3) = true := by rw [hc]; rfl
      rw [e] at h6 ⊢
      have e2 : twoI x = false := by unfold twoI; rw [hc]; rfl
      rw [e2]
      unfold phR markW
      simp [hc, hbt _ h6 (by rcases h8 with h8 | h8 | h8; omega; omega; exact h8)]
    · have e : (x.how != 3) = true := by rw [hc]; rfl
      rw [e] at h6 ⊢
      have e2 : twoI x = false := by unfold twoI; rw [hc]; rfl
      rw [e2]
      unfold phR markW
      simp [hc, hbt _ h6 (by rcases h8 with h8 | h8 | h8; omega; omega; exact h8)]
    · have e : (x.how != 3) = true := by rw [hc]; rfl
      rw [e] at h6 ⊢
      have e2 : twoI x = true := by unfold twoI; rw [hc]; rfl
      rw [e2]
      unfold phR markW
      simp [hc, hbt _ h6 (by rcases h8 with h8 | h8 | h8; omega; omega; exact h8)]
  · split <;> simp
  · unfold wtok; simp only; split <;> decide
  · unfold wtok; simp only; split <;> decide
theorem zI_ok {x : It} (h : okI x = true) : zI x = ⟨x.how, 0, x.fn, [], []⟩ := by
  obtain ⟨_, _, h3, h4, _⟩ := okI_parts h
  unfold zI
  rw [← h3, ← h4]
theorem cl_w {u : Tk} (h : closes u) (f : List Tk → Rx) (left : List It) (r : List Tk) : rtail f left (u :: r) = .ok left (u :: r) := by rw [rtail_cons, if_pos h.2]
/-- Operands. -/
theorem ropd_seg {l : List It} {p : Pt} {T : List Tk} (h : Seg l p T) (hp : p.pl = true) (f : List Tk → Rx) (d : Nat) (u : Tk) (r : List Tk) (hu : u.k ≠ 2) : ∃ t r', T = t :: r' ∧ vb t.w = false ∧ ropd f d t (r' ++ u :: r) = .ok (l.map zI) (u :: r) := by
  cases h with
  | num x h1 h2 =>
    obtain ⟨h3, h4, _, h5, _⟩ := opd_num h1 h2
    cases e : x.ns with
    | nil => rw [e] at h5; cases h5
    | cons n ns =>
      refine ⟨_, _, rfl, vb_nil, ?_⟩
      have hm := nums_map ns u r hu
      unfold ropd
      rw [if_pos rfl, hm.1, hm.2]
      unfold zI
      simp [h1, h3, h4, e]
  | nam x h1 h2 =>
    obtain ⟨h3, h4, h5, _⟩ := opd_nam h1 h2
    refine ⟨_, _, rfl, (name_nomark h5).2.2.2.2.2, ?_⟩
    unfold ropd
    rw [if_neg (by simp), if_pos h5]
    unfold zI
    simp [h1, h3, h4]
  | mon x l p T _ h1 h2 => cases hp
  | dy x l m p q T U _ _ h1 h2 => cases hp
theorem rx_seg {l : List It} {p : Pt} {T : List Tk} (h : Seg l p T) : ∀ (n d : Nat) (u : Tk) (r : List Tk), T.length ≤ n → d + p.ne ≤ 32 → closes u → u.k ≠ 2 → rx n d (T ++ u :: r) = .ok (l.map zI) (u :: r) := by
  have opd : ∀ {l : List It} {p : Pt} {T : List Tk}, Seg l p T → p.pl = true → ∀ (n d : Nat) (u : Tk) (r : List Tk), T.length ≤ n → closes u → u.k ≠ 2 → rx n d (T ++ u :: r) = .ok (l.map zI) (u :: r) := by
    intro l p T h hp n d u r hn hu hk
    obtain ⟨t, r', rfl, hv, hr⟩ := ropd_seg h hp (rx (n - 1) (d + 1)) d u r hk
    cases n with
    | zero => simp at hn
    | succ n =>
      rw [List.cons_append, rx_cons, if_neg (by rw [hv]; decide)]
      have hr : ropd (rx n (d + 1)) d t (r' ++ u :: r) = .ok (l.map zI) (u :: r) := hr
      rw [hr]
      exact cl_w hu _ _ _
  induction h with
  | num x h1 h2 => intro n d u r hn hd hu hk; exact opd (.num x h1 h2) (by rw [(opd_num h1 h2).2.2.1]) n d u r hn hu hk
  | nam x h1 h2 => intro n d u r hn hd hu hk; exact opd (.nam x h1 h2) (by rw [(opd_nam h1 h2).2.2.2]) n d u r hn hu hk
  | mon x l p T hs h1 h2 ih =>
    intro n d u r hn hd hu hk
    obtain ⟨t, r', hT, ht, _⟩ := seg_head hs
    obtain ⟨m, e1, e2, e3, e4, e5, _⟩ := phr_v h1 (t := t) ht (r' ++ u :: r)
    rw [h2] at e4
    have hlen : (vtok x ++ T).length = m.length + 1 + T.length := by rw [e1]; simp; omega
    rw [hlen] at hn
    cases n with
    | zero => omega
    | succ n =>
      rw [e1, List.append_assoc, List.cons_append, rx_cons, if_pos (show vb (wtok (verbW x.fn (x.how != 3))).w = true from e2)]
      have e6 : m ++ (T ++ u :: r) = m ++ t :: (r' ++ u :: r) := by rw [hT]; rfl
      rw [e6, e3]
      show (if (phR (verbW x.fn (x.how != 3)) false (markW x.how)).2 = 0 then _ else _) = _
      rw [e4, if_neg (okI_parts h1).2.2.2.2.2.2.1]
      have e7 : t :: (r' ++ u :: r) = T ++ u :: r := by rw [hT]; rfl
      rw [e7, ih n d u r (by omega) hd hu hk, List.map_append]
      show Rx.ok _ _ = _
      rw [show [x].map zI = [zI x] from rfl, zI_ok h1]
      have e9 : phR (wtok (verbW x.fn (x.how != 3))).w false (markW x.how) = (x.how, x.fn) := e4
      dsimp only
      rw [e9]
      rfl
  | dy x l m p q T U hs hg h1 h2 ih ig =>
    intro n d u r hn hd hu hk
    obtain ⟨t, r', hU, ht, _⟩ := seg_head hg
    obtain ⟨mm, e1, e2, e3, e4, e5, e6, e6'⟩ := phr_v h1 (t := t) ht (r' ++ u :: r)
    rw [h2] at e4
    have hw := word_nomark (okI_parts h1).2.2.2.2.1
    have hlen : (btok p T ++ vtok x ++ U).length = (btok p T).length + (mm.length + 1) + U.length := by rw [e1]; simp; omega
    rw [hlen] at hn
    have hne : d + (brkP p).ne ≤ 32 ∧ d + q.ne ≤ 32 := by unfold dyP at hd; simp only at hd; omega
    -- what stands behind the left one
    have htail : ∀ k, U.length ≤ k → ∀ left, rtail (rx k d) left (wtok (verbW x.fn (x.how != 3)) :: (mm ++ (U ++ u :: r))) = .ok (left ++ m.map zI ++ [zI x]) (u :: r) := fun k hk2 left => by
      rw [rtail_cons, if_neg (by rintro (h | h); exact e6 h; exact hw.2.2.2 h)]
      rw [if_pos (show vb (wtok (verbW x.fn (x.how != 3))).w = true from e2)]
      have e7 : mm ++ (U ++ u :: r) = mm ++ t :: (r' ++ u :: r) := by rw [hU]; rfl
      rw [e7, e3]
      show (if (phR (verbW x.fn (x.how != 3)) true (markW x.how)).2 = 0 then _ else _) = _
      rw [e4, if_neg (okI_parts h1).2.2.2.2.2.2.1]
      have e8 : t :: (r' ++ u :: r) = U ++ u :: r := by rw [hU]; rfl
      rw [e8, ig k d u r hk2 hne.2 hu hk]
      show Rx.ok _ _ = _
      rw [zI_ok h1]
      have e9 : phR (wtok (verbW x.fn (x.how != 3))).w true (markW x.how) = (x.how, x.fn) := e4
      dsimp only
      rw [e9]
      rfl
    have hall : (btok p T ++ vtok x ++ U) ++ u :: r = btok p T ++ wtok (verbW x.fn (x.how != 3)) :: (mm ++ (U ++ u :: r)) := by rw [e1]; simp
    rw [hall, show (l ++ m ++ [x]).map zI = l.map zI ++ m.map zI ++ [zI x] by simp]
    cases hp : p.pl with
    | true =>
      have hb : btok p T = T := by unfold btok; rw [hp]; rfl
      rw [hb] at hn ⊢
      obtain ⟨t2, r2, hT, hv, hr⟩ := ropd_seg hs hp (rx (n - 1) (d + 1)) d (wtok (verbW x.fn (x.how != 3))) (mm ++ (U ++ u :: r)) e6'
      subst hT
      cases n with
      | zero => simp at hn
      | succ n =>
        rw [List.cons_append, rx_cons, if_neg (by rw [hv]; decide)]
        have hr : ropd (rx n (d + 1)) d t2 (r2 ++ wtok (verbW x.fn (x.how != 3)) :: (mm ++ (U ++ u :: r))) = .ok (l.map zI) (wtok (verbW x.fn (x.how != 3)) :: (mm ++ (U ++ u :: r))) := hr
        rw [hr]
        exact htail n (by omega) _
    | false =>
      have hb := btok_cons p T hp
      rw [hb] at hn ⊢
      have hbn : (brkP p).ne = p.ne + 1 := by unfold brkP; rw [hp]; rfl
      rw [hbn] at hne
      simp only [List.length_cons, List.length_append, List.length_nil] at hn
      cases n with
      | zero => omega
      | succ n =>
        rw [List.cons_append, rx_cons, if_neg (by show ¬ vb [40] = true; rw [vb_op]; decide)]
        unfold ropd
        rw [if_neg (by decide), if_neg (by decide), if_pos rfl, if_neg (by omega)]
        have e9 : T ++ [(⟨3, 0, [41], 0⟩ : Tk)] ++ wtok (verbW x.fn (x.how != 3)) :: (mm ++ (U ++ u :: r)) = T ++ ⟨3, 0, [41], 0⟩ :: (wtok (verbW x.fn (x.how != 3)) :: (mm ++ (U ++ u :: r))) := by simp
        rw [e9, ih n (d + 1) ⟨3, 0, [41], 0⟩ _ (by omega) (by omega) cl_closes (by decide)]
        show (match (if ([41] : List UInt8) = [41] then Rx.ok (l.map zI) (wtok (verbW x.fn (x.how != 3)) :: (mm ++ (U ++ u :: r))) else Rx.err 0 42) with | .err a e => Rx.err a e | .ok left rest => rtail (rx n d) left rest) = _
        rw [if_pos rfl]
        exact htail n (by omega) _
end Go.Proofs.YtbapgdhcbfpdoaaDoor
