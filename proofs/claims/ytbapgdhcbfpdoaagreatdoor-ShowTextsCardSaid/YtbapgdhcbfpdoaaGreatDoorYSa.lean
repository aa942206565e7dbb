/- Layer 4, put together: ShwM, ShwA, ShwB, ShwC, ShwD, ShwE, ShwF. -/
import Derived.Test.YtbapgdhcbfpdoaaGreatDoorYPq
import Derived.Test.YtbapgdhcbfpdoaaGreatDoorYPg
import Derived.Test.YtbapgdhcbfpdoaaGreatDoorZLd
/- Programs as texts, the document's way, over plain lists. -/
namespace Go.Proofs.YtbapgdhcbfpdoaaGreatDoor
open Go.RowKit
/-- A value's text, whether it is an operand, its tokens, its brackets that are open at one time. -/
structure Pt where
  s : List UInt8
  pl : Bool
  tk : Nat
  ne : Nat
deriving DecidableEq, Inhabited
def wordsL : List (List UInt8) := [[43], [45], [42], [37], [124], [109, 105, 110], [109, 97, 120], [61], [126], [60], [60, 61], [62, 61], [62], [97, 110, 100], [111, 114], [112, 111, 119], [114, 104, 111], [116, 97, 107, 101], [100, 114, 111, 112], [99, 97, 116], [105, 111, 116, 97], [115, 104, 97, 112, 101], [114, 97, 118, 101, 108], [114, 101, 118], [116, 117, 114, 110]]
def verbIn : List (List UInt8) → Int → Bool → List UInt8
  | [], _, _ => []
  | w :: r, f, two => if (verbR w two != 0) && (verbR w two == f) then w else verbIn r f two
/-- A verb's text; none: empty. -/
def verbW (f : Int) (two : Bool) : List UInt8 := verbIn wordsL f two
def numsT : List Int → List UInt8
  | [] => []
  | [n] => digs n
  | n :: m :: r => digs n ++ 32 :: numsT (m :: r)
def opdP (x : It) : Pt :=
  if x.fn ≠ 0 then ⟨[], false, 0, 0⟩
  else if x.how = 2 then (if 0 < x.ns.length ∨ nameB x.nm = false then ⟨[], false, 0, 0⟩ else ⟨x.nm, true, 1, 0⟩)
  else if x.nm ≠ [] ∨ 256 < x.ns.length then ⟨[], false, 0, 0⟩ else ⟨numsT x.ns, true, x.ns.length, 0⟩
def brkP (p : Pt) : Pt := if p.pl then p else ⟨40 :: (p.s ++ [41]), false, p.tk + 2, p.ne + 1⟩
def markW (how : Int) : List UInt8 := if how = 5 then [47] else if how = 6 then [92] else if how = 7 then [46] else []
def twoI (x : It) : Bool := decide (x.how = 4 ∨ x.how = 7)
/-- Is an item that is no operand well made, places and values apart? -/
def okI (x : It) : Bool := decide (3 ≤ x.how ∧ x.how ≤ 7 ∧ x.ns = [] ∧ x.nm = [] ∧ verbW x.fn (x.how != 3) ≠ []) && ((x.how == 3) || (x.how == 4) || tk2 x.fn)
def monP (x : It) (p : Pt) : Pt := ⟨verbW x.fn (x.how != 3) ++ markW x.how ++ 32 :: p.s, false, (if x.how = 3 ∨ x.how = 4 then 1 else 2) + p.tk, p.ne⟩
def dyP (x : It) (p q : Pt) : Pt := ⟨(brkP p).s ++ 32 :: (verbW x.fn (x.how != 3) ++ markW x.how ++ 32 :: q.s), false, (brkP p).tk + (if x.how = 3 ∨ x.how = 4 then 1 else 2) + q.tk, max (brkP p).ne q.ne⟩
/-- The values' texts, the last one first, behind an item. -/
def stepP (l : List Pt) (x : It) : Option (List Pt) :=
  if x.how = 1 ∨ x.how = 2 then (if 0 < (opdP x).tk then some (opdP x :: l) else none)
  else if okI x = false then none
  else if twoI x then (match l with
    | q :: p :: r => some (dyP x p q :: r)
    | _ => none)
  else match l with
    | p :: r => some (monP x p :: r)
    | [] => none
def runP : List It → List Pt → Option (List Pt)
  | [], l => some l
  | x :: r, l => (stepP l x).bind (runP r)
def exprP (l : List It) (ahead : Nat) : Option (List UInt8) :=
  if 256 < l.length then none else match runP l [] with
    | some [p] => if 256 < p.tk + ahead ∨ 32 < p.ne then none else some p.s
    | _ => none
def sidesP : List (List UInt8 × Int) → Option (List UInt8)
  | [] => some []
  | d :: r => if d.1 = [] then (sidesP r).map fun t => 32 :: (digs d.2 ++ t)
    else if d.2 = 0 ∧ nameB d.1 = true then (sidesP r).map fun t => 32 :: (d.1 ++ t)
    else none
def inputP (x : Inp) : Option (List UInt8) :=
  if nameB x.nm = false ∨ 4 < x.sd.length then none else (sidesP x.sd).map fun t => [105, 110, 32] ++ x.nm ++ t
def insP : List Inp → Option (List UInt8)
  | [] => some []
  | x :: r => (inputP x).bind fun t => (insP r).map fun u => t ++ 10 :: u
def lnsP : List Ln → Option (List UInt8)
  | [] => none
  | [m] => if m.nm = [] then (exprP m.its 1).map fun t => [111, 117, 116, 32] ++ t ++ [10] else none
  | m :: r => if nameB m.nm = false then none else (exprP m.its 2).bind fun t => (lnsP r).map fun u => m.nm ++ [58, 32] ++ t ++ 10 :: u
/-- A program's text, if it may be. -/
def textP (p : Pg) : Option (List UInt8) := if 64 < p.ins.length + p.lns.length then none else (insP p.ins).bind fun t => (lnsP p.lns).map fun u => t ++ u
def rightP (p : Pg) : Bool := (textP p).isSome
def showP (p : Pg) : List UInt8 × Int := match textP p with
  | none => ([], 50)
  | some s => if 65536 < s.length then ([], 30) else (s, 0)

/-! ### segments -/
def wtok (w : List UInt8) : Tk := ⟨if wordB w then 1 else 3, 0, w, 0⟩
/-- A verb's tokens. -/
def vtok (x : It) : List Tk := wtok (verbW x.fn (x.how != 3)) :: (if x.how = 3 ∨ x.how = 4 then [] else [⟨3, 0, markW x.how, 0⟩])
def btok (p : Pt) (T : List Tk) : List Tk := if p.pl then T else ⟨3, 0, [40], 0⟩ :: (T ++ [⟨3, 0, [41], 0⟩])
/-- Items that leave one value, with its text and its tokens. -/
inductive Seg : List It → Pt → List Tk → Prop
  | num (x : It) (h1 : x.how = 1) (h2 : 0 < (opdP x).tk) : Seg [x] (opdP x) (x.ns.map fun n => ⟨2, 0, [], n⟩)
  | nam (x : It) (h1 : x.how = 2) (h2 : 0 < (opdP x).tk) : Seg [x] (opdP x) [⟨1, 0, x.nm, 0⟩]
  | mon (x : It) (l : List It) (p : Pt) (T : List Tk) (h : Seg l p T) (h1 : okI x = true) (h2 : twoI x = false) : Seg (l ++ [x]) (monP x p) (vtok x ++ T)
  | dy (x : It) (l m : List It) (p q : Pt) (T U : List Tk) (h : Seg l p T) (g : Seg m q U) (h1 : okI x = true) (h2 : twoI x = true) : Seg (l ++ m ++ [x]) (dyP x p q) (btok p T ++ vtok x ++ U)
theorem runP_app : ∀ (l m : List It) (st : List Pt), runP (l ++ m) st = (runP l st).bind (runP m)
  | [], m, st => rfl
  | x :: l, m, st => by
    show (stepP st x).bind (runP (l ++ m)) = ((stepP st x).bind (runP l)).bind (runP m)
    cases stepP st x with
    | none => rfl
    | some s => exact runP_app l m s
theorem seg_run {l : List It} {p : Pt} {T : List Tk} (h : Seg l p T) : ∀ st, runP l st = some (p :: st) := by
  induction h with
  | num x h1 h2 => intro st; simp [runP, stepP, h1, h2]
  | nam x h1 h2 => intro st; simp [runP, stepP, h1, h2]
  | mon x l p T _ h1 h2 ih =>
    intro st
    rw [runP_app, ih st]
    have hh : ¬ (x.how = 1 ∨ x.how = 2) := by unfold okI at h1; simp at h1; omega
    simp [runP, stepP, hh, h1, h2]
  | dy x l m p q T U _ _ h1 h2 ih ig =>
    intro st
    rw [runP_app, runP_app, ih st]
    simp only [Option.bind_some]
    rw [ig]
    have hh : ¬ (x.how = 1 ∨ x.how = 2) := by unfold okI at h1; simp at h1; omega
    simp [runP, stepP, hh, h1, h2]
/-- What a run leaves: a segment for each value. -/
inductive Segs : List It → List Pt → Prop
  | nil : Segs [] []
  | snoc (l : List It) (st : List Pt) (m : List It) (p : Pt) (T : List Tk) (h : Segs l st) (g : Seg m p T) : Segs (l ++ m) (p :: st)
theorem segs_step {l : List It} {st st' : List Pt} {x : It} (h : Segs l st) (hs : stepP st x = some st') : Segs (l ++ [x]) st' := by
  unfold stepP at hs
  split at hs
  · rename_i hh
    split at hs
    · rename_i hk
      injection hs with hs
      subst hs
      rcases hh with hh | hh
      · exact .snoc l st [x] _ _ h (.num x hh hk)
      · exact .snoc l st [x] _ _ h (.nam x hh hk)
    · cases hs
  split at hs
  · cases hs
  rename_i hok
  have hok : okI x = true := by simpa using hok
  split at hs
  · rename_i h2
    cases h with
    | nil => cases hs
    | snoc l0 st0 m p T h0 g =>
      cases h0 with
      | nil => cases hs
      | snoc l1 st1 m1 p1 T1 h1 g1 =>
        simp only [Option.some.injEq] at hs
        subst hs
        have := Segs.snoc l1 st1 _ _ _ h1 (.dy x m1 m p1 p T1 T g1 g hok h2)
        simpa [List.append_assoc] using this
  · rename_i h2
    have h2 : twoI x = false := by simpa using h2
    cases h with
    | nil => cases hs
    | snoc l0 st0 m p T h0 g =>
      simp only [Option.some.injEq] at hs
      subst hs
      have := Segs.snoc l0 st0 _ _ _ h0 (.mon x m p T g hok h2)
      simpa [List.append_assoc] using this
theorem segs_run : ∀ (l : List It) (l0 : List It) (st st' : List Pt), Segs l0 st → runP l st = some st' → Segs (l0 ++ l) st'
  | [], l0, st, st', h, hr => by
    simp only [runP, Option.some.injEq] at hr
    subst hr
    rwa [List.append_nil]
  | x :: l, l0, st, st', h, hr => by
    have hr : (stepP st x).bind (runP l) = some st' := hr
    cases hs : stepP st x with
    | none => rw [hs] at hr; cases hr
    | some s =>
      rw [hs] at hr
      have := segs_run l (l0 ++ [x]) s st' (segs_step h hs) hr
      simpa using this
theorem run_seg {l : List It} {p : Pt} (h : runP l [] = some [p]) : ∃ T, Seg l p T := by
  have := segs_run l [] [] [p] .nil h
  rw [List.nil_append] at this
  cases this with
  | snoc l0 st m p T h0 g =>
    cases h0
    exact ⟨T, g⟩
theorem exprP_seg {l : List It} {k : Nat} {s : List UInt8} (h : exprP l k = some s) : ∃ p T, Seg l p T ∧ l.length ≤ 256 ∧ p.tk + k ≤ 256 ∧ p.ne ≤ 32 ∧ s = p.s := by
  unfold exprP at h
  split at h
  · cases h
  · rename_i hl
    split at h
    · rename_i p hp
      split at h
      · cases h
      · rename_i hc
        injection h with h
        obtain ⟨T, hT⟩ := run_seg hp
        exact ⟨p, T, hT, by omega, by omega, by omega, h.symm⟩
    · cases h
theorem seg_exprP {l : List It} {p : Pt} {T : List Tk} (h : Seg l p T) {k : Nat} (hl : l.length ≤ 256) (ht : p.tk + k ≤ 256) (hn : p.ne ≤ 32) : exprP l k = some p.s := by
  unfold exprP
  rw [if_neg (by omega), seg_run h []]
  simp only
  rw [if_neg (by omega)]
end Go.Proofs.YtbapgdhcbfpdoaaGreatDoor
/- The text of a segment is cut into its tokens. Pure. -/
namespace Go.Proofs.YtbapgdhcbfpdoaaGreatDoor
open Go.RowKit
/-- A text without a note or a line's end is cut into these tokens, places apart. -/
def LX (s : List UInt8) (T : List Tk) : Prop := (∀ c ∈ s, c.toNat ≠ 35 ∧ c.toNat ≠ 10) ∧ ∃ ts, lexL s 0 = .ok ts ∧ ts.map zT = T
theorem LX.nil : LX [] [] := ⟨fun c h => (by cases h), [], lex_nil 0, rfl⟩
theorem LX.at {s : List UInt8} {T : List Tk} (h : LX s T) (a : Int) : ∃ ts, lexL s a = .ok ts ∧ ts.map zT = T := by
  obtain ⟨_, ts, h1, h2⟩ := h
  exact ⟨ts.map (mv a), lex_at4 a h1, by rw [mv_z, h2]⟩
theorem LX.bl {t : List UInt8} {T : List Tk} (h : LX t T) : LX (32 :: t) T := by
  obtain ⟨us, g1, g2⟩ := h.at (0 + 1)
  refine ⟨fun c hc => ?_, us, by rw [lex_bl, g1], g2⟩
  rcases List.mem_cons.1 hc with rfl | hc
  · decide
  · exact h.1 c hc
theorem LX.op {t : List UInt8} {T : List Tk} (h : LX t T) : LX (40 :: t) (⟨3, 0, [40], 0⟩ :: T) := by
  obtain ⟨us, g1, g2⟩ := h.at (0 + 1)
  refine ⟨fun c hc => ?_, ⟨3, 0, [40], 0⟩ :: us, by rw [lex_sgn piece_open, g1]; rfl, by rw [List.map_cons, g2]; rfl⟩
  rcases List.mem_cons.1 hc with rfl | hc
  · decide
  · exact h.1 c hc
theorem lex_one {b : UInt8} {r : List UInt8} {kd v : Int} {w : List UInt8} (h : piece b r = .tok kd w v r.length) (a : Int) : lexL (b :: r) a = .ok [⟨kd, a, w, v⟩] := by
  rw [lex_tok h, List.drop_length, lex_nil]; rfl
theorem LX.one {b : UInt8} {r : List UInt8} {kd v : Int} {w : List UInt8} (h : piece b r = .tok kd w v r.length) (hc : ∀ c ∈ b :: r, c.toNat ≠ 35 ∧ c.toNat ≠ 10) : LX (b :: r) [⟨kd, 0, w, v⟩] := ⟨hc, _, lex_one h 0, rfl⟩
theorem mag_snoc (l : List UInt8) (acc : Nat) (c : UInt8) : mag acc (l ++ [c]) = mag acc l * 10 + (c.toNat - 48) := by unfold mag; rw [List.foldl_append]; rfl
theorem mag_dec : ∀ (n u : Nat), u ≤ n → mag 0 (Lib.decDigits u) = u := by
  intro n
  induction n with
  | zero =>
    intro u hu
    obtain rfl : u = 0 := by omega
    rw [dec_last (by omega)]; rfl
  | succ n ih =>
    intro u hu
    by_cases h : 9 < u
    · rw [dec_step h, mag_snoc, ih (u / 10) (by omega)]
      have : (UInt8.ofNat (48 + u % 10)).toNat = 48 + u % 10 := by simp; omega
      rw [this]; omega
    · rw [dec_last h]
      show mag 0 ([] ++ [_]) = _
      rw [mag_snoc, mag_nil]
      have : (UInt8.ofNat (48 + u)).toNat = 48 + u := by simp; omega
      rw [this]; omega
theorem dig_no {b : UInt8} (h : digB b = true) : blB b = false ∧ b.toNat ≠ 35 ∧ b.toNat ≠ 10 ∧ letB b = false := by
  unfold digB at h
  simp at h
  unfold blB letB
  simp
  omega
def rng (n : Int) : Prop := -9223372036854775808 ≤ n ∧ n ≤ 9223372036854775807
end Go.Proofs.YtbapgdhcbfpdoaaGreatDoor
/- A segment's tokens are read as its items. Pure. -/
namespace Go.Proofs.YtbapgdhcbfpdoaaGreatDoor
open Go.RowKit
end Go.Proofs.YtbapgdhcbfpdoaaGreatDoor
/- What is shown is read as the program. Pure. -/
namespace Go.Proofs.YtbapgdhcbfpdoaaGreatDoor
open Go.RowKit
def PgR (p : Pg) : Prop := (∀ m ∈ p.lns, ∀ x ∈ m.its, ∀ n ∈ x.ns, rng n) ∧ ∀ x ∈ p.ins, ∀ d ∈ x.sd, rng d.2
end Go.Proofs.YtbapgdhcbfpdoaaGreatDoor
/- What is read may be shown, with no more tokens. Pure. -/
namespace Go.Proofs.YtbapgdhcbfpdoaaGreatDoor
open Go.RowKit
def Short (d : Nat) (its : List It) (k : Nat) (rest : List Tk) : Prop := ∃ p T, Seg its p T ∧ p.tk + rest.length ≤ k ∧ d + p.ne ≤ 32 ∧ its.length + rest.length ≤ k
def ShortB (d : Nat) (its : List It) (k : Nat) (rest : List Tk) : Prop := ∃ p T, Seg its p T ∧ (brkP p).tk + rest.length ≤ k ∧ d + (brkP p).ne ≤ 32 ∧ its.length + rest.length ≤ k
theorem ShortB.to {d : Nat} {its : List It} {k : Nat} {rest : List Tk} (h : ShortB d its k rest) : Short d its k rest := by
  obtain ⟨p, T, h1, h2, h3, h4⟩ := h
  refine ⟨p, T, h1, ?_, ?_, h4⟩
  · have : p.tk ≤ (brkP p).tk := by unfold brkP; split <;> simp
    omega
  · have : p.ne ≤ (brkP p).ne := by unfold brkP; split <;> simp
    omega
end Go.Proofs.YtbapgdhcbfpdoaaGreatDoor
/- What is read may be shown, with no more tokens: programs. Pure. -/
namespace Go.Proofs.YtbapgdhcbfpdoaaGreatDoor
open Go.RowKit
/-! ### the text of what is read -/
/-! ### how many tokens a text has -/
end Go.Proofs.YtbapgdhcbfpdoaaGreatDoor
/- Texts hang on no places; what the laws ask. Pure. -/
namespace Go.Proofs.YtbapgdhcbfpdoaaGreatDoor
open Go.RowKit
/-- Numbers that are lexed are in range. -/
theorem numR_rng {neg : Bool} {ds : List UInt8} {v : Int} (h : numR neg ds = some v) : rng v := by
  unfold numR at h
  unfold rng
  split at h
  · split at h
    · injection h with h; omega
    · cases h
  · split at h
    · injection h with h; omega
    · cases h
theorem piece_rng {b : UInt8} {r : List UInt8} {kd v : Int} {w : List UInt8} {k : Nat} (h : piece b r = .tok kd w v k) : rng v := by
  have hnum : ∀ {neg : Bool} {ds : List UInt8} {j : Nat}, numP (numR neg ds) j = .tok kd w v k → rng v := by
    intro neg ds j hp
    cases hn : numR neg ds with
    | none => rw [hn] at hp; cases hp
    | some x =>
      rw [hn] at hp
      injection hp with _ _ h3
      subst h3
      exact numR_rng hn
  have hz : rng 0 := by unfold rng; omega
  unfold piece at h
  split at h
  · cases h
  split at h
  · cases h
  split at h
  · injection h with _ _ h3; subst h3; exact hz
  split at h
  · split at h
    · cases h
    · injection h with _ _ h3; subst h3; exact hz
  split at h
  · exact hnum h
  split at h
  · exact hnum h
  split at h
  · injection h with _ _ h3; subst h3; exact hz
  split at h
  · injection h with _ _ h3; subst h3; exact hz
  · cases h
theorem lex_rng : ∀ (n : Nat) (l : List UInt8) (a : Int), l.length ≤ n → ∀ ts, lexL l a = .ok ts → ∀ t ∈ ts, rng t.n := by
  intro n
  induction n with
  | zero =>
    intro l a hl ts h
    obtain rfl : l = [] := List.length_eq_zero_iff.1 (by omega)
    rw [lex_nil] at h; injection h with h; subst h
    exact fun t ht => by simp at ht
  | succ n ih =>
    intro l a hl ts h
    cases l with
    | nil => rw [lex_nil] at h; injection h with h; subst h; exact fun t ht => by simp at ht
    | cons b r =>
      simp at hl
      cases hp : piece b r with
      | skip k =>
        rw [lex_skip hp] at h
        exact ih _ _ (by rw [List.length_drop]; omega) _ h
      | tok kd w v k =>
        rw [lex_tok hp] at h
        obtain ⟨vs, hv, rfl⟩ := pre_ok h
        have h1 := ih _ _ (by rw [List.length_drop]; omega) _ hv
        intro t ht
        simp only [List.cons_append, List.nil_append, List.mem_cons] at ht
        rcases ht with rfl | ht
        · exact piece_rng hp
        · exact h1 t ht
      | bad e => rw [lex_bad hp] at h; cases h
theorem nums_mem (r : List Tk) : ∀ n ∈ numsOf r, ∃ t ∈ r, t.n = n := by
  intro n hn
  obtain ⟨t, ht, rfl⟩ := List.mem_map.1 hn
  exact ⟨t, (List.takeWhile_sublist _).subset ht, rfl⟩
/-- All numbers of what is read are. -/
theorem mrun_rng : ∀ (n : Nat) (ts : List Tk) (b : Bool) (l : List It) (s : List (Option It)) (x : List It), ts.length ≤ n → (∀ t ∈ ts, rng t.n) → (∀ y ∈ l, ∀ k ∈ y.ns, rng k) → (∀ y ∈ s, ∀ z, y = some z → ∀ k ∈ z.ns, rng k) → mrun ts b l s = .ok x → ∀ y ∈ x, ∀ k ∈ y.ns, rng k := by
  intro n
  induction n with
  | zero =>
    intro ts b l s x hl _ h1 h2 h
    obtain rfl : ts = [] := List.length_eq_zero_iff.1 (by omega)
    rw [mrun] at h
    injection h with h; subst h; exact h1
  | succ n ih =>
    intro ts b l s x hl ht h1 h2 h
    cases ts with
    | nil => rw [mrun] at h; injection h with h; subst h; exact h1
    | cons t r =>
      simp only [List.length_cons] at hl
      have hset := settle_all (P := fun y => ∀ k ∈ y.ns, rng k) s l h1 h2
      have htr : ∀ u ∈ r, rng u.n := fun u hu => ht u (by simp [hu])
      rw [mrun_cons] at h
      split at h
      · split at h
        · cases h
        · have := mk_len r
          exact ih _ _ _ _ _ (by omega) (fun u hu => htr u ((mk_suf r).subset hu)) h1 (fun y hy z hz => by
            rcases List.mem_cons.1 hy with rfl | hy
            · injection hz with hz; subst hz; intro k hk; cases hk
            · exact h2 y hy z hz) h
      split at h
      · split at h
        · have := past_len r
          exact ih _ _ _ _ _ (by omega) (fun u hu => htr u ((past_suf r).subset hu)) (fun y hy => by
            rcases List.mem_append.1 hy with hy | hy
            · exact h1 y hy
            · simp only [List.mem_singleton] at hy
              subst hy
              intro k hk
              rcases List.mem_cons.1 hk with rfl | hk
              · exact ht t (by simp)
              · obtain ⟨u, hu, rfl⟩ := nums_mem r k hk
                exact htr u hu) h2 h
        split at h
        · exact ih _ _ _ _ _ (by omega) htr (fun y hy => by
            rcases List.mem_append.1 hy with hy | hy
            · exact h1 y hy
            · simp only [List.mem_singleton] at hy
              subst hy
              intro k hk; cases hk) h2 h
        split at h
        · split at h
          · cases h
          · exact ih _ _ _ _ _ (by omega) htr h1 (fun y hy z hz => by
              rcases List.mem_cons.1 hy with rfl | hy
              · cases hz
              · exact h2 y hy z hz) h
        split at h <;> cases h
      split at h
      · split at h
        · cases h
        · injection h with h; subst h; exact hset.1
      split at h
      · exact ih _ _ _ _ _ (by omega) htr hset.1 hset.2 h
      · cases h
theorem expr_rng {ts : List Tk} {x : List It} (h : exprR ts = .ok x) (ht : ∀ t ∈ ts, rng t.n) : ∀ y ∈ x, ∀ k ∈ y.ns, rng k := mrun_rng _ ts false [] [] x (Nat.le_refl _) ht (fun y hy => by cases hy) (fun y hy => by cases hy) h
theorem sides_rng : ∀ (us : List Tk) (l sd : List (List UInt8 × Int)), (∀ t ∈ us, rng t.n) → (∀ d ∈ l, rng d.2) → sidesR us l = .ok sd → ∀ d ∈ sd, rng d.2
  | [], l, sd, _, h2, h => by rw [sidesR] at h; injection h with h; subst h; exact h2
  | t :: us, l, sd, h1, h2, h => by
    rw [sidesR] at h
    split at h
    · cases h
    split at h
    · cases h
    exact sides_rng us _ sd (fun x hx => h1 x (by simp [hx])) (fun d hd => by
      rcases List.mem_append.1 hd with hd | hd
      · exact h2 d hd
      · simp only [List.mem_singleton] at hd; subst hd; exact h1 t (by simp)) h
theorem add_rng {p q : Pg} {ts : List Tk} (ht : ∀ t ∈ ts, rng t.n) (hp : PgR p) (h : addR p ts = .ok q) : PgR q := by
  have hln : ∀ (nm : List UInt8) (pl : Int) (us : List Tk), (∀ t ∈ us, rng t.n) → addLnR p nm pl us = .ok q → PgR q := by
    intro nm pl us hu h1
    unfold addLnR at h1
    split at h1
    · cases h1
    rename_i its h2
    injection h1 with h1
    subst h1
    refine ⟨fun m hm => ?_, hp.2⟩
    rcases List.mem_append.1 hm with hm | hm
    · exact hp.1 m hm
    · simp only [List.mem_singleton] at hm; subst hm; exact expr_rng h2 hu
  unfold addR at h
  split at h
  · injection h with h; subst h; exact hp
  rename_i f r
  have hr : ∀ t ∈ r, rng t.n := fun t h => ht t (by simp [h])
  split at h
  · injection h with h; subst h; exact hp
  rename_i hk
  split at h
  · cases h
  rename_i hcc
  split at h
  · cases h
  rename_i hl
  split at h
  · cases h
  rename_i hcp
  split at h
  · rename_i hin
    unfold addInR at h
    split at h
    · cases h
    rename_i hpl
    split at h
    · injection h with h; subst h; exact hp
    rename_i t r
    split at h
    · cases h
    split at h
    · cases h
    split at h
    · cases h
    rename_i sd h2
    injection h with h
    subst h
    refine ⟨hp.1, fun x hx => ?_⟩
    rcases List.mem_append.1 hx with hx | hx
    · exact hp.2 x hx
    · simp only [List.mem_singleton] at hx
      subst hx
      exact sides_rng r.dropLast [] sd (fun t h => hr t (List.mem_cons_of_mem _ (List.dropLast_subset _ h))) (fun d hd => by cases hd) h2
  split at h
  · exact hln _ _ _ hr h
  split at h
  · cases h
  split at h
  · cases h
  exact hln _ _ _ (fun t h => hr t (List.mem_of_mem_drop h)) h
theorem lines_rng : ∀ (n : Nat) (e : Int) (p q : Pg) (us : List Tk), us.length ≤ n → (∀ t ∈ us, rng t.n) → PgR p → linesR e p us = .ok q → PgR q := by
  intro n
  induction n with
  | zero =>
    intro e p q us h _ hp hq
    obtain rfl : us = [] := List.length_eq_zero_iff.1 (by omega)
    rw [lines_nil] at hq
    split at hq
    · injection hq with hq; subst hq; exact hp
    · cases hq
  | succ n ih =>
    intro e p q us h hg hp hq
    cases us with
    | nil =>
      rw [lines_nil] at hq
      split at hq
      · injection hq with hq; subst hq; exact hp
      · cases hq
    | cons f r =>
      cases hx : addR p ((f :: r).take (cutAt (f :: r))) with
      | err a c => rw [lines_err hx] at hq; cases hq
      | ok p2 =>
        rw [lines_ok hx] at hq
        exact ih e p2 q _ (by simp [cutAt] at h ⊢; omega) (fun t ht => hg t (List.mem_of_mem_drop ht)) (add_rng (fun t ht => hg t (List.mem_of_mem_take ht)) hp hx) hq
/-- What is read has numbers in range. -/
theorem pz_rng {l : List UInt8} {q : Pg} (h : parseR l = .ok q) : PgR q := by
  cases hx : lexR l with
  | err a c => rw [pz_bad hx] at h; cases h
  | ok ts =>
    rw [pz_ok hx] at h
    have hx0 : lexL l 0 = .ok ts := by
      unfold lexR at hx
      split at hx
      · cases hx
      · exact hx
    refine lines_rng _ _ _ _ _ (Nat.le_refl _) (fun t ht => ?_) ⟨fun m hm => (by cases hm), fun x hx => (by cases hx)⟩ h
    rcases List.mem_append.1 ht with ht | ht
    · exact lex_rng _ l 0 (Nat.le_refl _) ts hx0 t ht
    · simp only [List.mem_singleton] at ht
      subst ht
      show rng 0
      unfold rng; omega
end Go.Proofs.YtbapgdhcbfpdoaaGreatDoor
