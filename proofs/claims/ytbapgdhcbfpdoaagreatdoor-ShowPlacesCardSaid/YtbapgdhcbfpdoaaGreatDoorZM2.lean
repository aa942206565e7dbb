/- Layer 4, put together: ParM, ParP, ParQ. -/
import Derived.Test.YtbapgdhcbfpdoaaGreatDoorZM1
/- Programs, and how tokens are read as one, over plain lists: imports nothing of the program. -/
namespace Go.Proofs.YtbapgdhcbfpdoaaGreatDoor
open Go.RowKit

/-- An item: how, place, function, name, numbers. -/
structure It where
  how : Int
  pl : Int
  fn : Int
  nm : List UInt8
  ns : List Int
deriving DecidableEq, Inhabited
structure Inp where
  nm : List UInt8
  pl : Int
  sd : List (List UInt8 × Int)
deriving DecidableEq, Inhabited
structure Ln where
  nm : List UInt8
  pl : Int
  its : List It
deriving DecidableEq, Inhabited
structure Pg where
  ins : List Inp
  lns : List Ln
deriving DecidableEq, Inhabited

/-! ### verbs and names -/
def vtab : List (List UInt8 × Int × Int) := [([43], 1, 1), ([45], 2, 2), ([42], 3, 3), ([37], 4, 4), ([124], 5, 5), ([109, 105, 110], 6, 6), ([109, 97, 120], 7, 7), ([61], 0, 8), ([126], 16, 9), ([60], 0, 10), ([60, 61], 0, 11), ([62, 61], 0, 12), ([62], 0, 13), ([97, 110, 100], 0, 14), ([111, 114], 0, 15), ([112, 111, 119], 0, 17), ([105, 111, 116, 97], 32, 0), ([115, 104, 97, 112, 101], 33, 0), ([114, 97, 118, 101, 108], 34, 0), ([114, 101, 118], 35, 0), ([116, 117, 114, 110], 36, 0), ([114, 104, 111], 0, 37), ([116, 97, 107, 101], 0, 38), ([100, 114, 111, 112], 0, 39), ([99, 97, 116], 0, 40)]
def vlookIn : List (List UInt8 × Int × Int) → List UInt8 → Int × Int
  | [], _ => (0, 0)
  | (v, x) :: r, w => if v = w then x else vlookIn r w
def verbR (w : List UInt8) (two : Bool) : Int := if two then (vlookIn vtab w).2 else (vlookIn vtab w).1
def vb (w : List UInt8) : Bool := (verbR w false != 0) || (verbR w true != 0)
def betw (w : List UInt8) : Int := if 17 < verbR w true then 0 else verbR w true
def wordB : List UInt8 → Bool
  | [] => false
  | b :: r => letB b && decide (run alnB r = r.length) && decide (r.length ≤ 15)
def nameB (w : List UInt8) : Bool := wordB w && !vb w && (w != [105, 110]) && (w != [111, 117, 116])

/-! ### expressions: the code's way -/
inductive Er where
  | ok (l : List It)
  | err (a e : Int)
deriving DecidableEq
def mk (r : List Tk) : List UInt8 × List Tk := match r with
  | [] => ([], [])
  | t :: r => if t.w = [47] ∨ t.w = [92] ∨ t.w = [46] then (t.w, r) else ([], t :: r)
/-- A phrase's item: how, and which function (0: none). -/
def phR (w : List UInt8) (b : Bool) (m : List UInt8) : Int × Int :=
  if m = [47] ∧ b = false then (5, betw w)
  else if m = [92] ∧ b = false then (6, betw w)
  else if m = [46] ∧ b = true then (7, betw w)
  else if m = [] ∧ b = true then (4, verbR w true)
  else if m = [] then (3, verbR w false)
  else (0, 0)
def settleL : List It → List (Option It) → List It × List (Option It)
  | l, [] => (l, [])
  | l, none :: s => (l, s)
  | l, some x :: s => settleL (l ++ [x]) s
def opens : List (Option It) → Nat
  | [] => 0
  | none :: s => opens s + 1
  | some _ :: s => opens s
def isNum (t : Tk) : Bool := decide (t.k = 2)
def numsOf (r : List Tk) : List Int := (r.takeWhile isNum).map (·.n)
def pastNums (r : List Tk) : List Tk := r.dropWhile isNum
theorem mk_len (r : List Tk) : (mk r).2.length ≤ r.length := by
  unfold mk; split
  · simp
  · split <;> simp
theorem past_len (r : List Tk) : (pastNums r).length ≤ r.length := by
  unfold pastNums
  induction r with
  | nil => simp
  | cons a r ih => rw [List.dropWhile_cons]; split <;> simp <;> omega
def mrun (ts : List Tk) (b : Bool) (l : List It) (s : List (Option It)) : Er := match ts with
  | [] => .ok l
  | t :: r =>
    if vb t.w then
      (if (phR t.w b (mk r).1).2 = 0 then .err t.a 43 else mrun (mk r).2 false l (some ⟨(phR t.w b (mk r).1).1, t.a, (phR t.w b (mk r).1).2, [], []⟩ :: s))
    else if b = false then
      (if t.k = 2 then mrun (pastNums r) true (l ++ [⟨1, t.a, 0, [], t.n :: numsOf r⟩]) s
      else if nameB t.w then mrun r true (l ++ [⟨2, t.a, 0, t.w, []⟩]) s
      else if t.w = [40] then (if opens s = 32 then .err t.a 44 else mrun r false l (none :: s))
      else if t.k = 1 then .err t.a 41 else .err t.a 42)
    else if t.k = 4 then (if 0 < opens s then .err t.a 42 else .ok (settleL l s).1)
    else if t.w = [41] ∧ 0 < opens s then mrun r true (settleL l s).1 (settleL l s).2
    else .err t.a 46
termination_by ts.length
decreasing_by
  all_goals simp only [List.length_cons]
  · have := mk_len r; omega
  · have := past_len r; omega
  all_goals omega
def exprR (ts : List Tk) : Er := mrun ts false [] []

/-! ### lines -/
inductive Pr where
  | ok (p : Pg)
  | err (a e : Int)
deriving DecidableEq
def compl (p : Pg) : Bool := match p.lns.getLast? with
  | some l => l.nm == []
  | none => false
inductive Sr where
  | ok (l : List (List UInt8 × Int))
  | err (a e : Int)
def sidesR : List Tk → List (List UInt8 × Int) → Sr
  | [], l => .ok l
  | t :: r, l => if t.k ≠ 2 ∧ nameB t.w = false then .err t.a 41 else if l.length = 4 then .err t.a 45 else sidesR r (l ++ [(t.w, t.n)])
def addInR (p : Pg) (f : Tk) (r : List Tk) : Pr :=
  if 0 < p.lns.length then .err f.a 40
  else match r with
    | [] => .ok p
    | t :: r => if t.k = 4 then .err t.a 42 else if nameB t.w = false then .err t.a 41 else match sidesR r.dropLast [] with
      | .err a e => .err a e
      | .ok sd => .ok ⟨p.ins ++ [⟨t.w, t.a, sd⟩], p.lns⟩
def addLnR (p : Pg) (nm : List UInt8) (pl : Int) (ts : List Tk) : Pr := match exprR ts with
  | .err a e => .err a e
  | .ok its => .ok ⟨p.ins, p.lns ++ [⟨nm, pl, its⟩]⟩
def addR (p : Pg) (ts : List Tk) : Pr := match ts with
  | [] => .ok p
  | f :: r =>
    if f.k = 4 then .ok p
    else if p.ins.length + p.lns.length = 64 then .err f.a 45
    else if 256 < r.length then .err ((f :: r).getD 256 default).a 45
    else if compl p then .err f.a 40
    else if f.w = [105, 110] then addInR p f r
    else if f.w = [111, 117, 116] then addLnR p [] f.a r
    else if nameB f.w = false then .err f.a 40
    else if (r.getD 0 default).w ≠ [58] then .err (r.getD 0 default).a 42
    else addLnR p f.w f.a (r.drop 1)
def isEnd (t : Tk) : Bool := decide (t.k = 4)
def cutAt (ts : List Tk) : Nat := ts.findIdx isEnd + 1
def linesR (e : Int) (p : Pg) (ts : List Tk) : Pr := match ts with
  | [] => if compl p then .ok p else .err e 42
  | t :: r => match addR p ((t :: r).take (cutAt (t :: r))) with
    | .err a c => .err a c
    | .ok q => linesR e q ((t :: r).drop (cutAt (t :: r)))
termination_by ts.length
decreasing_by simp only [List.length_drop, cutAt, List.length_cons]; omega
def parseR (l : List UInt8) : Pr := match lexR l with
  | .err a e => .err a e
  | .ok ts => linesR l.length ⟨[], []⟩ (ts ++ [⟨4, l.length, [], 0⟩])
def Pr.pg : Pr → Pg
  | .ok p => p
  | .err _ _ => ⟨[], []⟩
def Pr.fa : Pr → Int
  | .ok _ => 0
  | .err a _ => a
def Pr.fe : Pr → Int
  | .ok _ => 0
  | .err _ e => e
end Go.Proofs.YtbapgdhcbfpdoaaGreatDoor
/- Laws of how expressions are read, over plain lists: imports nothing of the program. -/
namespace Go.Proofs.YtbapgdhcbfpdoaaGreatDoor
open Go.RowKit

theorem mrun_cons (t : Tk) (r : List Tk) (b : Bool) (l : List It) (s : List (Option It)) : mrun (t :: r) b l s =
    if vb t.w then
      (if (phR t.w b (mk r).1).2 = 0 then .err t.a 43 else mrun (mk r).2 false l (some ⟨(phR t.w b (mk r).1).1, t.a, (phR t.w b (mk r).1).2, [], []⟩ :: s))
    else if b = false then
      (if t.k = 2 then mrun (pastNums r) true (l ++ [⟨1, t.a, 0, [], t.n :: numsOf r⟩]) s
      else if nameB t.w then mrun r true (l ++ [⟨2, t.a, 0, t.w, []⟩]) s
      else if t.w = [40] then (if opens s = 32 then .err t.a 44 else mrun r false l (none :: s))
      else if t.k = 1 then .err t.a 41 else .err t.a 42)
    else if t.k = 4 then (if 0 < opens s then .err t.a 42 else .ok (settleL l s).1)
    else if t.w = [41] ∧ 0 < opens s then mrun r true (settleL l s).1 (settleL l s).2
    else .err t.a 46 := by
  conv => lhs; rw [mrun]

/-! ### places make no difference -/
def zT (t : Tk) : Tk := { t with a := 0 }
def zI (x : It) : It := { x with pl := 0 }
def zE : Er → Er
  | .ok l => .ok (l.map zI)
  | .err _ e => .err 0 e
def zS (s : List (Option It)) : List (Option It) := s.map (Option.map zI)
theorem mk_z (r : List Tk) : mk (r.map zT) = ((mk r).1, (mk r).2.map zT) := by
  cases r with
  | nil => rfl
  | cons t r =>
    simp only [mk, List.map_cons]
    rw [show (zT t).w = t.w from rfl]
    split <;> simp [zT]
theorem past_z (r : List Tk) : pastNums (r.map zT) = (pastNums r).map zT := by
  unfold pastNums
  induction r with
  | nil => rfl
  | cons t r ih =>
    rw [List.map_cons, List.dropWhile_cons, List.dropWhile_cons, show isNum (zT t) = isNum t from rfl]
    split
    · exact ih
    · rfl
theorem nums_z (r : List Tk) : numsOf (r.map zT) = numsOf r := by
  unfold numsOf
  induction r with
  | nil => rfl
  | cons t r ih =>
    rw [List.map_cons, List.takeWhile_cons, List.takeWhile_cons, show isNum (zT t) = isNum t from rfl]
    split
    · simp only [List.map_cons, ih]; rfl
    · rfl
theorem opens_z (s : List (Option It)) : opens (zS s) = opens s := by
  induction s with
  | nil => rfl
  | cons x s ih =>
    cases x with
    | none => show opens (zS s) + 1 = opens s + 1; rw [ih]
    | some x => exact ih
theorem settle_z : ∀ (s : List (Option It)) (l : List It), settleL (l.map zI) (zS s) = ((settleL l s).1.map zI, zS (settleL l s).2)
  | [], l => rfl
  | none :: s, l => rfl
  | some x :: s, l => by
    show settleL (l.map zI ++ [zI x]) (zS s) = _
    rw [show l.map zI ++ [zI x] = (l ++ [x]).map zI by simp, settle_z s (l ++ [x])]; rfl
theorem mrun_z : ∀ (n : Nat) (ts : List Tk) (b : Bool) (l : List It) (s : List (Option It)), ts.length ≤ n → zE (mrun ts b l s) = mrun (ts.map zT) b (l.map zI) (zS s) := by
  intro n
  induction n with
  | zero =>
    intro ts b l s h
    obtain rfl : ts = [] := List.eq_nil_of_length_eq_zero (by omega)
    rw [List.map_nil, mrun, mrun]; rfl
  | succ n ih =>
    intro ts b l s h
    cases ts with
    | nil => rw [List.map_nil, mrun, mrun]; rfl
    | cons t r =>
      simp only [List.length_cons] at h
      have h1 := mk_len r
      have h2 := past_len r
      rw [List.map_cons, mrun_cons, mrun_cons, mk_z, past_z, nums_z, opens_z, settle_z]
      show _ = if vb t.w then (if (phR t.w b (mk r).1).2 = 0 then Er.err 0 43 else mrun ((mk r).2.map zT) false (l.map zI) (some ⟨(phR t.w b (mk r).1).1, 0, (phR t.w b (mk r).1).2, [], []⟩ :: zS s))
        else if b = false then
          (if t.k = 2 then mrun ((pastNums r).map zT) true (l.map zI ++ [⟨1, 0, 0, [], t.n :: numsOf r⟩]) (zS s)
          else if nameB t.w then mrun (r.map zT) true (l.map zI ++ [⟨2, 0, 0, t.w, []⟩]) (zS s)
          else if t.w = [40] then (if opens s = 32 then .err 0 44 else mrun (r.map zT) false (l.map zI) (none :: zS s))
          else if t.k = 1 then .err 0 41 else .err 0 42)
        else if t.k = 4 then (if 0 < opens s then .err 0 42 else .ok ((settleL l s).1.map zI))
        else if t.w = [41] ∧ 0 < opens s then mrun (r.map zT) true ((settleL l s).1.map zI) (zS (settleL l s).2)
        else .err 0 46
      split
      · split
        · rfl
        · rw [ih _ _ _ _ (by omega)]; rfl
      · split
        · split
          · rw [ih _ _ _ _ (by omega), List.map_append]; rfl
          · split
            · rw [ih _ _ _ _ (by omega), List.map_append]; rfl
            · split
              · split
                · rfl
                · rw [ih _ _ _ _ (by omega)]; rfl
              · split <;> rfl
        · split
          · split <;> rfl
          · split
            · rw [ih _ _ _ _ (by omega)]
            · rfl

/-! ### where an expression may end -/
def closes (t : Tk) : Prop := vb t.w = false ∧ (t.k = 4 ∨ t.w = [41])
theorem mrun_shift {t : Tk} (h : closes t) (r : List Tk) (l : List It) (x : It) (s : List (Option It)) : mrun (t :: r) true l (some x :: s) = mrun (t :: r) true (l ++ [x]) s := by
  rw [mrun_cons, mrun_cons, h.1]
  rfl

/-! ### in brackets, and behind other things -/
theorem mk_app (A : List Tk) (c e : Tk) (r : List Tk) (hc : c.w ≠ [47] ∧ c.w ≠ [92] ∧ c.w ≠ [46]) (he : e.w = []) : ∃ B, mk (A ++ [e]) = ((mk (A ++ [e])).1, B ++ [e]) ∧ mk (A ++ c :: r) = ((mk (A ++ [e])).1, B ++ c :: r) ∧ B.length ≤ A.length ∧ ∀ t ∈ B, t ∈ A := by
  cases A with
  | nil =>
    refine ⟨[], ?_, ?_, Nat.le_refl _, by simp⟩
    · simp [mk, he]
    · simp [mk, he, hc]
  | cons t A =>
    by_cases h : t.w = [47] ∨ t.w = [92] ∨ t.w = [46]
    · exact ⟨A, by simp [mk, h], by simp [mk, h], by simp, fun x hx => by simp [hx]⟩
    · exact ⟨t :: A, by simp [mk, h], by simp [mk, h], by simp, fun x hx => by simpa using hx⟩
theorem past_app (A : List Tk) (c e : Tk) (r : List Tk) (hc : c.k ≠ 2) (he : e.k ≠ 2) : ∃ B, pastNums (A ++ [e]) = B ++ [e] ∧ pastNums (A ++ c :: r) = B ++ c :: r ∧ numsOf (A ++ [e]) = numsOf (A ++ c :: r) ∧ B.length ≤ A.length ∧ ∀ t ∈ B, t ∈ A := by
  induction A with
  | nil => exact ⟨[], by simp [pastNums, isNum, he], by simp [pastNums, isNum, hc], by simp [numsOf, isNum, hc, he], Nat.le_refl _, by simp⟩
  | cons t A ih =>
    by_cases h : t.k = 2
    · obtain ⟨B, h1, h2, h3, h4, h5⟩ := ih
      refine ⟨B, ?_, ?_, ?_, by simp; omega, fun x hx => by simp [h5 x hx]⟩
      · rw [← h1]; simp [pastNums, isNum, h]
      · rw [← h2]; simp [pastNums, isNum, h]
      · simp only [numsOf] at h3
        simp [numsOf, isNum, h] at h3 ⊢
        exact h3
    · exact ⟨t :: A, by simp [pastNums, isNum, h], by simp [pastNums, isNum, h], by simp [numsOf, isNum, h], by simp, fun x hx => by simpa using hx⟩
theorem opens_app (s u : List (Option It)) : opens (s ++ u) = opens s + opens u := by
  induction s with
  | nil => simp [opens]
  | cons x s ih =>
    cases x with
    | none => show opens (s ++ u) + 1 = opens s + 1 + opens u; omega
    | some x => exact ih
theorem settle_app : ∀ (s : List (Option It)) (u : List (Option It)) (l0 l : List It), 0 < opens s → settleL (l0 ++ l) (s ++ u) = (l0 ++ (settleL l s).1, (settleL l s).2 ++ u)
  | [], u, l0, l, h => by simp [opens] at h
  | none :: s, u, l0, l, h => rfl
  | some x :: s, u, l0, l, h => by
    show settleL (l0 ++ l ++ [x]) (s ++ u) = _
    rw [List.append_assoc, settle_app s u l0 (l ++ [x]) h]; rfl
theorem settle_end : ∀ (s : List (Option It)) (u : List (Option It)) (l0 l : List It), opens s = 0 → settleL (l0 ++ l) (s ++ u) = settleL (l0 ++ (settleL l s).1) u
  | [], u, l0, l, h => rfl
  | none :: s, u, l0, l, h => by simp [opens] at h
  | some x :: s, u, l0, l, h => by
    show settleL (l0 ++ l ++ [x]) (s ++ u) = _
    rw [List.append_assoc, settle_end s u l0 (l ++ [x]) h]; rfl
/-- An expression that is read, with something else ahead of it, things to be done below, and another end. -/
theorem mrun_in : ∀ (n : Nat) (A : List Tk) (b : Bool) (l : List It) (s : List (Option It)) (e c : Tk) (rest : List Tk) (l0 : List It) (u : List (Option It)) (x : List It), A.length ≤ n → (e.k = 4 ∧ e.w = []) → closes c → c.w ≠ [47] ∧ c.w ≠ [92] ∧ c.w ≠ [46] → c.k ≠ 2 → (∀ t ∈ A, t.k ≠ 4) →
    mrun (A ++ [e]) b l s = .ok x → (∃ a, mrun (A ++ c :: rest) b (l0 ++ l) (s ++ u) = .err a 44) ∧ 0 < opens u ∨ mrun (A ++ c :: rest) b (l0 ++ l) (s ++ u) = mrun (c :: rest) true (l0 ++ x) u := by
  intro n
  induction n with
  | zero =>
    intro A b l s e c rest l0 u x hA he hc hm hk h4 h
    obtain rfl : A = [] := List.eq_nil_of_length_eq_zero (by omega)
    right
    rw [List.nil_append, mrun_cons] at h
    have hv : vb e.w = false := by rw [he.2]; decide
    rw [hv] at h
    simp only [Bool.false_eq_true, if_false] at h
    cases b with
    | false =>
      simp only [if_true] at h
      rw [if_neg (by omega), he.2, if_neg (by decide), if_neg (by decide)] at h
      split at h <;> cases h
    | true =>
      simp only [Bool.true_eq_false, if_false] at h
      rw [if_pos he.1] at h
      split at h
      · cases h
      · rename_i ho
        injection h with h
        rw [List.nil_append]
        rw [mrun_cons, mrun_cons, hc.1]
        simp only [Bool.false_eq_true, Bool.true_eq_false, if_false]
        rw [opens_app, show opens s = 0 by omega, Nat.zero_add, settle_end s u l0 l (by omega), h]
  | succ n ih =>
    intro A b l s e c rest l0 u x hA he hc hm hk h4 h
    cases A with
    | nil => exact ih [] b l s e c rest l0 u x (by simp) he hc hm hk h4 h
    | cons t A =>
      simp only [List.length_cons] at hA
      have h4A : ∀ y ∈ A, y.k ≠ 4 := fun y hy => h4 y (by simp [hy])
      rw [List.cons_append, mrun_cons] at h
      rw [List.cons_append, mrun_cons]
      obtain ⟨B, m1, m2, m3, m4⟩ := mk_app A c e rest hm he.2
      obtain ⟨C, p1, p2, p3, p4, p5⟩ := past_app A c e rest hk (by omega)
      rw [m2]
      rw [show (mk (A ++ [e])).2 = B ++ [e] from by rw [m1]] at h
      rw [p1] at h
      rw [p2, ← p3]
      split at h
      · rename_i hv
        rw [if_pos hv]
        split at h
        · cases h
        · rename_i hx
          rw [if_neg hx]
          exact ih B false l _ e c rest l0 u x (by omega) he hc hm hk (fun y hy => h4A y (m4 y hy)) h
      · rename_i hv
        rw [if_neg hv]
        split at h
        · rename_i hb
          rw [if_pos hb]
          split at h
          · rename_i h1
            rw [if_pos h1]
            have := ih C true _ s e c rest l0 u x (by omega) he hc hm hk (fun y hy => h4A y (p5 y hy)) h
            rw [← List.append_assoc] at this
            exact this
          · rename_i h1
            rw [if_neg h1]
            split at h
            · rename_i h2
              rw [if_pos h2]
              have := ih A true _ s e c rest l0 u x (by omega) he hc hm hk h4A h
              rw [← List.append_assoc] at this
              exact this
            · rename_i h2
              rw [if_neg h2]
              split at h
              · rename_i h3
                rw [if_pos h3]
                split at h
                · cases h
                · rename_i h5
                  by_cases h6 : opens (s ++ u) = 32
                  · left
                    rw [if_pos h6]
                    rw [opens_app] at h6
                    exact ⟨⟨_, rfl⟩, by
                      rcases Nat.eq_zero_or_pos (opens u) with h7 | h7
                      · omega
                      · exact h7⟩
                  · rw [if_neg h6]
                    exact ih A false l _ e c rest l0 u x (by omega) he hc hm hk h4A h
              · split at h <;> cases h
        · rename_i hb
          rw [if_neg hb]
          have hb : b = true := by simpa using hb
          rw [if_neg (h4 t (by simp))] at h
          rw [if_neg (h4 t (by simp))]
          split at h
          · rename_i h1
            rw [if_pos ⟨h1.1, by rw [opens_app]; omega⟩]
            rw [settle_app s u l0 l h1.2]
            exact ih A true _ _ e c rest l0 u x (by omega) he hc hm hk h4A h
          · cases h
end Go.Proofs.YtbapgdhcbfpdoaaGreatDoor
/- Items' values stand ahead of them: over plain lists: imports nothing of the program. -/
namespace Go.Proofs.YtbapgdhcbfpdoaaGreatDoor
open Go.RowKit
/-! ### where tokens end -/
def Ends : List Tk → Prop
  | [] => False
  | t :: r => (r = [] ∧ t.k = 4 ∧ t.w = []) ∨ Ends r
theorem Ends.pos {l : List Tk} (h : Ends l) : 0 < l.length := by
  cases l with
  | nil => exact h.elim
  | cons t r => simp
theorem Ends.next {t : Tk} {r : List Tk} (h : Ends (t :: r)) (ht : ¬ (t.k = 4 ∧ t.w = [])) : Ends r := h.resolve_left fun e => ht e.2
theorem Ends.mk {l : List Tk} (h : Ends l) : Ends (mk l).2 := by
  cases l with
  | nil => exact h.elim
  | cons t r =>
    unfold Go.Proofs.YtbapgdhcbfpdoaaGreatDoor.mk
    simp only
    split
    · rename_i h1; exact h.next fun e => by rw [e.2] at h1; simp at h1
    · exact h
theorem Ends.past {l : List Tk} (h : Ends l) : Ends (pastNums l) := by
  induction l with
  | nil => exact h.elim
  | cons t r ih =>
    by_cases hk : t.k = 2
    · have e : pastNums (t :: r) = pastNums r := by simp [pastNums, isNum, hk]
      rw [e]
      exact ih (h.next fun e => by omega)
    · have e : pastNums (t :: r) = t :: r := by simp [pastNums, isNum, hk]
      rw [e]; exact h
theorem Ends.snoc (l : List Tk) (e : Tk) (h1 : e.k = 4) (h2 : e.w = []) : Ends (l ++ [e]) := by
  induction l with
  | nil => exact .inl ⟨rfl, h1, h2⟩
  | cons t r ih => exact .inr ih
theorem vb_nil : vb [] = false := by decide
theorem name_nil : nameB [] = false := by decide


/-! ### values ahead -/
def isM (x : It) : Prop := x.how = 3 ∨ x.how = 5 ∨ x.how = 6
def isD (x : It) : Prop := x.how = 4 ∨ x.how = 7
instance (x : It) : Decidable (isM x) := by unfold isM; infer_instance
instance (x : It) : Decidable (isD x) := by unfold isD; infer_instance
def stepF (h : Nat) (x : It) : Option Nat :=
  if x.how = 1 ∨ x.how = 2 then some (h + 1) else if isM x then (if h < 1 then none else some h) else if isD x then (if h < 2 then none else some (h - 1)) else none
def runF : List It → Nat → Option Nat
  | [], h => some h
  | x :: l, h => (stepF h x).bind (runF l)
theorem runF_snoc (x : It) : ∀ (l : List It) (h : Nat), runF (l ++ [x]) h = (runF l h).bind fun j => stepF j x
  | [], h => by simp [runF]
  | y :: l, h => by
    simp only [List.cons_append, runF]
    cases stepF h y with
    | none => rfl
    | some j => exact runF_snoc x l j
def Good : Nat → List (Option It) → Prop
  | h, [] => h = 1
  | h, none :: s => 1 ≤ h ∧ Good h s
  | h, some x :: s => (isM x ∨ isD x) ∧ ∃ j, stepF h x = some j ∧ Good j s
theorem stepF_M {x : It} (h : isM x) {j : Nat} (hj : 1 ≤ j) : stepF j x = some j := by
  unfold stepF
  rw [if_neg (by unfold isM at h; omega), if_pos h, if_neg (by omega)]
theorem stepF_D {x : It} (h : isD x) {j : Nat} (hj : 2 ≤ j) : stepF j x = some (j - 1) := by
  unfold stepF
  rw [if_neg (by unfold isD at h; omega), if_neg (by unfold isD isM at *; omega), if_pos h, if_neg (by omega)]
theorem Good.pos : ∀ {h : Nat} {s : List (Option It)}, Good h s → 1 ≤ h
  | h, [], e => by rw [show h = 1 from e]; exact Nat.le_refl _
  | h, none :: s, e => e.1
  | h, some x :: s, ⟨hx, j, e1, e2⟩ => by
    rcases Nat.lt_or_ge h 1 with h0 | h0
    · exfalso
      obtain rfl : h = 0 := by omega
      unfold stepF at e1
      rcases hx with hx | hx
      · rw [if_neg (by unfold isM at hx; omega), if_pos hx, if_pos (by omega)] at e1; cases e1
      · rw [if_neg (by unfold isD at hx; omega), if_neg (by unfold isD isM at *; omega), if_pos hx, if_pos (by omega)] at e1; cases e1
    · exact h0
theorem good_settle : ∀ (s : List (Option It)) (l : List It) (h : Nat), runF l 0 = some h → Good h s → (opens s = 0 → runF (settleL l s).1 0 = some 1) ∧ (0 < opens s → ∃ j, runF (settleL l s).1 0 = some j ∧ Good j (settleL l s).2)
  | [], l, h, hr, hg => ⟨fun _ => by rw [show (settleL l []).1 = l from rfl, hr, show h = 1 from hg], fun h => by simp [opens] at h⟩
  | none :: s, l, h, hr, hg => ⟨fun h => by simp [opens] at h, fun _ => ⟨h, hr, hg.2⟩⟩
  | some x :: s, l, h, hr, ⟨_, j, e1, e2⟩ => good_settle s (l ++ [x]) j (by rw [runF_snoc, hr]; exact e1) e2
theorem phR_how {w : List UInt8} {b : Bool} {m : List UInt8} (h : (phR w b m).2 ≠ 0) : (b = false ∧ ((phR w b m).1 = 3 ∨ (phR w b m).1 = 5 ∨ (phR w b m).1 = 6)) ∨ (b = true ∧ ((phR w b m).1 = 4 ∨ (phR w b m).1 = 7)) := by
  unfold phR at *
  split
  · rename_i h1; exact .inl ⟨h1.2, by simp⟩
  split
  · rename_i h1; exact .inl ⟨h1.2, by simp⟩
  split
  · rename_i h1; exact .inr ⟨h1.2, by simp⟩
  split
  · rename_i h1; exact .inr ⟨h1.2, by simp⟩
  split
  · rename_i h0 h1
    cases b with
    | false => exact .inl ⟨rfl, by simp⟩
    | true => exact (h0 ⟨h1, rfl⟩).elim
  · rename_i h1 h2 h3 h4 h5
    exfalso
    rw [if_neg h1, if_neg h2, if_neg h3, if_neg h4, if_neg h5] at h
    exact h rfl
theorem mrun_flat : ∀ (n : Nat) (ts : List Tk) (b : Bool) (l : List It) (s : List (Option It)) (h : Nat) (x : List It), ts.length ≤ n → Ends ts → runF l 0 = some h → Good (h + if b then 0 else 1) s → mrun ts b l s = .ok x → runF x 0 = some 1 := by
  intro n
  induction n with
  | zero => intro ts b l s h x hn he; have := he.pos; omega
  | succ n ih =>
    intro ts b l s h x hn he hr hg hx
    cases ts with
    | nil => exact he.elim
    | cons t r =>
      simp only [List.length_cons] at hn
      have h1 := mk_len r
      have h2 := past_len r
      rw [mrun_cons] at hx
      split at hx
      · rename_i hv
        have her : Ends r := he.next fun e => by rw [e.2, vb_nil] at hv; cases hv
        split at hx
        · cases hx
        · rename_i hf
          refine ih _ _ _ _ h x (by omega) her.mk hr ?_ hx
          rcases phR_how hf with ⟨rfl, hh⟩ | ⟨rfl, hh⟩
          · simp only [Bool.false_eq_true, if_false] at hg ⊢
            have hm : isM ⟨(phR t.w false (mk r).1).1, t.a, (phR t.w false (mk r).1).2, [], []⟩ := hh
            exact ⟨.inl hm, h + 1, stepF_M hm (by omega), hg⟩
          · simp only [if_true, Bool.false_eq_true, if_false, Nat.add_zero] at hg ⊢
            have := hg.pos
            have hm : isD ⟨(phR t.w true (mk r).1).1, t.a, (phR t.w true (mk r).1).2, [], []⟩ := hh
            exact ⟨.inr hm, h, by rw [stepF_D hm (by omega)]; rfl, hg⟩
      · split at hx
        · rename_i hb
          subst hb
          simp only [Bool.false_eq_true, if_false] at hg
          split at hx
          · rename_i hk
            refine ih _ _ _ _ (h + 1) x (by omega) (Ends.past (he.next fun e => by omega)) ?_ ?_ hx
            · rw [runF_snoc, hr]; rfl
            · simpa using hg
          · split at hx
            · rename_i hk hnm
              refine ih _ _ _ _ (h + 1) x (by omega) (he.next fun e => by rw [e.2, name_nil] at hnm; cases hnm) ?_ ?_ hx
              · rw [runF_snoc, hr]; rfl
              · simpa using hg
            · split at hx
              · rename_i hw
                split at hx
                · cases hx
                · refine ih _ _ _ _ h x (by omega) (he.next fun e => by rw [e.2] at hw; cases hw) hr ?_ hx
                  simp only [Bool.false_eq_true, if_false]
                  exact ⟨by omega, hg⟩
              · split at hx <;> cases hx
        · rename_i hb
          obtain rfl : b = true := by simpa using hb
          simp only [if_true, Nat.add_zero] at hg
          have hse := good_settle s l h hr hg
          split at hx
          · split at hx
            · cases hx
            · rename_i ho
              injection hx with hx
              rw [← hx]
              exact hse.1 (by omega)
          · split at hx
            · rename_i hw
              obtain ⟨j, j1, j2⟩ := hse.2 hw.2
              refine ih _ _ _ _ j x (by omega) (he.next fun e => by rw [e.2] at hw; cases hw.1) j1 ?_ hx
              simpa using j2
            · cases hx
theorem expr_flat {ts : List Tk} {x : List It} (he : Ends ts) (h : exprR ts = .ok x) : runF x 0 = some 1 := mrun_flat _ ts false [] [] 0 x (Nat.le_refl _) he rfl rfl h
theorem mrun_err : ∀ (n : Nat) (ts : List Tk) (b : Bool) (l : List It) (s : List (Option It)) (a e : Int), ts.length ≤ n → mrun ts b l s = .err a e → 41 ≤ e ∧ e ≤ 46 ∧ ((∃ t ∈ ts, t.a = a)) := by
  intro n
  induction n with
  | zero =>
    intro ts b l s a e hn h
    obtain rfl : ts = [] := List.eq_nil_of_length_eq_zero (by omega)
    rw [mrun] at h; cases h
  | succ n ih =>
    intro ts b l s a e hn h
    cases ts with
    | nil => rw [mrun] at h; cases h
    | cons t r =>
      simp only [List.length_cons] at hn
      have h1 := mk_len r
      have h2 := past_len r
      have here : ∀ {a' e' : Int}, Er.err a' e' = .err a e → 41 ≤ e' → e' ≤ 46 → t.a = a' → 41 ≤ e ∧ e ≤ 46 ∧ ((∃ t' ∈ t :: r, t'.a = a)) := fun {a' e'} h h3 h4 h5 => by
        injection h with e1 e2
        subst e1 e2
        exact ⟨h3, h4, t, by simp, h5⟩
      have more : ∀ {us : List Tk}, (∀ x ∈ us, x ∈ r) → 41 ≤ e ∧ e ≤ 46 ∧ ((∃ t' ∈ us, t'.a = a)) → 41 ≤ e ∧ e ≤ 46 ∧ ((∃ t' ∈ t :: r, t'.a = a)) := fun hu ⟨h3, h4, x, hx, h5⟩ => ⟨h3, h4, x, by simp [hu x hx], h5⟩
      have mm : ∀ x ∈ (mk r).2, x ∈ r := by
        cases r with
        | nil => intro x hx; simp [mk] at hx
        | cons y r =>
          unfold mk
          simp only
          split
          · exact fun x hx => by simp [hx]
          · exact fun x hx => hx
      have mp : ∀ x ∈ pastNums r, x ∈ r := fun x hx => (List.dropWhile_suffix _).subset hx
      rw [mrun_cons] at h
      split at h
      · split at h
        · exact here h (by omega) (by omega) rfl
        · exact more mm (ih _ _ _ _ _ _ (by omega) h)
      · split at h
        · split at h
          · exact more mp (ih _ _ _ _ _ _ (by omega) h)
          · split at h
            · exact more (fun x hx => hx) (ih _ _ _ _ _ _ (by omega) h)
            · split at h
              · split at h
                · exact here h (by omega) (by omega) rfl
                · exact more (fun x hx => hx) (ih _ _ _ _ _ _ (by omega) h)
              · split at h
                · exact here h (by omega) (by omega) rfl
                · exact here h (by omega) (by omega) rfl
        · split at h
          · split at h
            · exact here h (by omega) (by omega) rfl
            · cases h
          · split at h
            · exact more (fun x hx => hx) (ih _ _ _ _ _ _ (by omega) h)
            · exact here h (by omega) (by omega) rfl
end Go.Proofs.YtbapgdhcbfpdoaaGreatDoor
