/- Layer 4, put together: LexM, LexN. -/
import Derived.RowKit
import Derived.IntWalk
import Derived.Lib.ParseIntBTie
/- Tokens, and how a text is cut into them, over plain lists: imports nothing of the program. -/
namespace Go.Proofs.YtbapgdhcbfpdoaaGreatDoor
open Go.RowKit

/-- A token: kind, place, word, number. -/
structure Tk where
  k : Int
  a : Int
  w : List UInt8
  n : Int
deriving DecidableEq, Inhabited

def letB (b : UInt8) : Bool := (decide (97 ≤ b.toNat) && decide (b.toNat ≤ 122)) || (decide (65 ≤ b.toNat) && decide (b.toNat ≤ 90))
def digB (b : UInt8) : Bool := decide (48 ≤ b.toNat) && decide (b.toNat ≤ 57)
def alnB (b : UInt8) : Bool := letB b || digB b
def nlB (b : UInt8) : Bool := decide (b.toNat ≠ 10)
def blB (b : UInt8) : Bool := decide (b.toNat = 32) || decide (b.toNat = 9)
def signs : List Nat := [43, 45, 42, 37, 124, 61, 126, 60, 62, 47, 92, 46, 58, 40, 41]
def oneB (b : UInt8) : Bool := signs.contains b.toNat
/-- How many bytes at the front are of a kind. -/
def run (f : UInt8 → Bool) (l : List UInt8) : Nat := (l.takeWhile f).length
def dstep (a : Nat) (c : UInt8) : Nat := a * 10 + (c.toNat - 48)
def mag (acc : Nat) (l : List UInt8) : Nat := l.foldl dstep acc
theorem mag_cons (acc : Nat) (c : UInt8) (r : List UInt8) : mag acc (c :: r) = mag (acc * 10 + (c.toNat - 48)) r := by unfold mag; rw [List.foldl_cons]; rfl
theorem mag_nil (acc : Nat) : mag acc [] = acc := rfl
/-- The number that digits spell, below 0 or not, if it is an int64. -/
def numR (neg : Bool) (ds : List UInt8) : Option Int :=
  if neg then (if mag 0 ds ≤ 9223372036854775808 then some (-(mag 0 ds : Int)) else none) else (if mag 0 ds < 9223372036854775808 then some (mag 0 ds : Int) else none)
inductive Pc where
  | skip (k : Nat)
  | tok (kd : Int) (w : List UInt8) (v : Int) (k : Nat)
  | bad (e : Int)
def numP (o : Option Int) (k : Nat) : Pc := match o with
  | some v => .tok 2 [] v k
  | none => .bad 32
/-- What begins at a byte: it takes k bytes behind the first one. -/
def piece (b : UInt8) (r : List UInt8) : Pc :=
  if blB b then .skip 0
  else if b.toNat = 35 then .skip (run nlB r)
  else if b.toNat = 10 then .tok 4 [] 0 0
  else if letB b then (if 15 < run alnB r then .bad 33 else .tok 1 (b :: r.take (run alnB r)) 0 (run alnB r))
  else if digB b then numP (numR false (b :: r.take (run digB r))) (run digB r)
  else if b.toNat = 95 ∧ 0 < run digB r then numP (numR true (r.take (run digB r))) (run digB r)
  else if (b.toNat = 60 ∨ b.toNat = 62) ∧ r.head? = some 61 then .tok 3 [b, 61] 0 1
  else if oneB b then .tok 3 [b] 0 0
  else .bad 31
inductive Rs where
  | ok (ts : List Tk)
  | err (a e : Int)
def Rs.pre (us : List Tk) : Rs → Rs
  | .ok ts => .ok (us ++ ts)
  | .err a e => .err a e
/-- A text's tokens. -/
def lexL (l : List UInt8) (a : Int) : Rs := match l with
  | [] => .ok []
  | b :: r => match piece b r with
    | .skip k => lexL (r.drop k) (a + 1 + k)
    | .tok kd w v k => Rs.pre [⟨kd, a, w, v⟩] (lexL (r.drop k) (a + 1 + k))
    | .bad e => .err a e
termination_by l.length
decreasing_by all_goals (simp; omega)
def lexR (l : List UInt8) : Rs := if 65536 < l.length then .err 0 30 else lexL l 0
def Rs.toks : Rs → List Tk
  | .ok ts => ts
  | .err _ _ => []
def Rs.fa : Rs → Int
  | .ok _ => 0
  | .err a _ => a
def Rs.fe : Rs → Int
  | .ok _ => 0
  | .err _ e => e

theorem lex_nil (a : Int) : lexL [] a = .ok [] := by rw [lexL]
theorem lex_skip {b : UInt8} {r : List UInt8} {k : Nat} (h : piece b r = .skip k) (a : Int) : lexL (b :: r) a = lexL (r.drop k) (a + 1 + k) := by rw [lexL, h]
theorem lex_tok {b : UInt8} {r : List UInt8} {kd v : Int} {w : List UInt8} {k : Nat} (h : piece b r = .tok kd w v k) (a : Int) : lexL (b :: r) a = Rs.pre [⟨kd, a, w, v⟩] (lexL (r.drop k) (a + 1 + k)) := by rw [lexL, h]
theorem lex_bad {b : UInt8} {r : List UInt8} {e : Int} (h : piece b r = .bad e) (a : Int) : lexL (b :: r) a = .err a e := by rw [lexL, h]
theorem pre_pre (us vs : List Tk) (x : Rs) : Rs.pre us (Rs.pre vs x) = Rs.pre (us ++ vs) x := by cases x <;> simp [Rs.pre]
theorem pre_nil (x : Rs) : Rs.pre [] x = x := by cases x <;> rfl
theorem pre_ok {us ts : List Tk} {x : Rs} (h : Rs.pre us x = .ok ts) : ∃ vs, x = .ok vs ∧ ts = us ++ vs := by
  cases x with
  | ok vs => simp only [Rs.pre, Rs.ok.injEq] at h; exact ⟨vs, rfl, h.symm⟩
  | err a e => simp [Rs.pre] at h
theorem pre_err {us : List Tk} {x : Rs} {a e : Int} (h : Rs.pre us x = .err a e) : x = .err a e := by
  cases x with
  | ok vs => simp [Rs.pre] at h
  | err a e => simpa [Rs.pre] using h

/-! ### runs -/
def headNot (f : UInt8 → Bool) (x : List UInt8) : Prop := ∀ c, x.head? = some c → f c = false
theorem run_nil (f : UInt8 → Bool) : run f [] = 0 := rfl
theorem run_cons (f : UInt8 → Bool) (c : UInt8) (r : List UInt8) : run f (c :: r) = if f c then run f r + 1 else 0 := by
  unfold run; rw [List.takeWhile_cons]; cases h : f c <;> simp
theorem run_le (f : UInt8 → Bool) (l : List UInt8) : run f l ≤ l.length := by
  induction l with
  | nil => exact Nat.le_refl _
  | cons c r ih => rw [run_cons]; split <;> simp <;> omega
theorem run_drop (f : UInt8 → Bool) (l : List UInt8) : headNot f (l.drop (run f l)) := by
  induction l with
  | nil => intro c h; simp at h
  | cons c r ih =>
    rw [run_cons]
    split
    · simpa using ih
    · rename_i hc
      intro d hd
      simp at hd
      subst hd
      simpa using hc
theorem run_ext (f : UInt8 → Bool) (l x : List UInt8) (h : headNot f x) : run f (l.take (run f l) ++ x) = run f l := by
  induction l with
  | nil =>
    simp only [run_nil, List.take_nil, List.nil_append]
    cases x with
    | nil => rfl
    | cons c x => rw [run_cons, h c rfl]; rfl
  | cons c r ih =>
    rw [run_cons]
    cases hc : f c
    · simp only [Bool.false_eq_true, if_false, List.take_zero, List.nil_append]
      cases x with
      | nil => rfl
      | cons d x => rw [run_cons, h d rfl]; rfl
    · simp only [if_true, List.take_succ_cons, List.cons_append, run_cons, hc, ih]
theorem run_add (f : UInt8 → Bool) (l x : List UInt8) : run f (l.take (run f l) ++ x) = run f l + run f x := by
  induction l with
  | nil => simp [run_nil]
  | cons c r ih =>
    rw [run_cons]
    cases hc : f c
    · simp
    · simp only [if_true, List.take_succ_cons, List.cons_append, run_cons, hc, ih]; omega
theorem run_take (f : UInt8 → Bool) (l x : List UInt8) : (l.take (run f l) ++ x).take (run f l) = l.take (run f l) := by
  rw [List.take_append_of_le_length (by rw [List.length_take]; have := run_le f l; omega), List.take_of_length_le (by rw [List.length_take]; omega)]
theorem run_getD (f : UInt8 → Bool) (l : List UInt8) (j : Nat) (h : j < run f l) : f (l.getD j 0) = true := by
  induction l generalizing j with
  | nil => simp [run_nil] at h
  | cons c r ih =>
    rw [run_cons] at h
    cases hc : f c
    · simp [hc] at h
    · rw [hc, if_pos rfl] at h
      cases j with
      | zero => simpa using hc
      | succ j => simpa using ih j (by omega)
theorem run_stop (f : UInt8 → Bool) (l : List UInt8) (j : Nat) (h : ∀ i, i < j → f (l.getD i 0) = true) (hj : j ≤ l.length) (hs : j = l.length ∨ f (l.getD j 0) = false) : run f l = j := by
  induction l generalizing j with
  | nil => simp at hj; subst hj; rfl
  | cons c r ih =>
    rw [run_cons]
    cases j with
    | zero =>
      rcases hs with hs | hs
      · simp at hs
      · simp at hs; simp [hs]
    | succ j =>
      have h0 := h 0 (by omega)
      simp at h0
      rw [h0, if_pos rfl]
      rw [ih j (fun i hi => by simpa using h (i + 1) (by omega)) (by simpa using hj) (by
        rcases hs with hs | hs
        · left; simpa using hs
        · right; simpa using hs)]
theorem run_all (f : UInt8 → Bool) (l : List UInt8) : ∀ c ∈ l.take (run f l), f c = true := by
  induction l with
  | nil => intro c h; simp at h
  | cons c r ih =>
    rw [run_cons]
    cases hc : f c
    · intro d hd; simp at hd
    · intro d hd
      simp only [if_true, List.take_succ_cons, List.mem_cons] at hd
      rcases hd with rfl | hd
      · exact hc
      · exact ih d hd
theorem run_full (f : UInt8 → Bool) (l : List UInt8) (h : ∀ c ∈ l, f c = true) : run f l = l.length := by
  induction l with
  | nil => rfl
  | cons c r ih => rw [run_cons, h c (by simp), if_pos rfl, ih (fun c hc => h c (by simp [hc]))]; rfl

/-! ### pieces -/
def soft (x : List UInt8) : Prop := ∀ c, x.head? = some c → c.toNat = 10 ∨ c.toNat = 32 ∨ c.toNat = 9
theorem soft_dig {x : List UInt8} (h : soft x) : headNot digB x := fun c hc => by
  have := h c hc; unfold digB; simp; omega
theorem soft_aln {x : List UInt8} (h : soft x) : headNot alnB x := fun c hc => by
  have := h c hc; unfold alnB letB digB; simp; omega
theorem soft_eq {x : List UInt8} (h : soft x) : x.head? ≠ some 61 := fun hc => by
  have := h 61 hc; have e : (61 : UInt8).toNat = 61 := rfl; omega
theorem headNot_of {f : UInt8 → Bool} {x y : List UInt8} (h : x.head? = y.head?) (hy : headNot f y) : headNot f x := fun c hc => hy c (by rw [← h]; exact hc)
theorem numP_tok {o : Option Int} {j : Nat} {kd v : Int} {w : List UInt8} {k : Nat} (h : numP o j = .tok kd w v k) : k = j := by
  unfold numP at h; split at h
  · injection h with _ _ _ h; exact h.symm
  · cases h
theorem numP_skip {o : Option Int} {j k : Nat} : numP o j ≠ .skip k := by unfold numP; split <;> (intro h; cases h)
/-- A token's piece doesn't hang on what stands behind, as long as it ends there. -/
theorem piece_tok {b : UInt8} {r : List UInt8} {kd v : Int} {w : List UInt8} {k : Nat} (h : piece b r = .tok kd w v k) (x : List UInt8) (hx : x.head? = (r.drop k).head? ∨ soft x) : piece b (r.take k ++ x) = .tok kd w v k := by
  unfold piece at h
  split at h
  · cases h
  rename_i h1
  split at h
  · cases h
  rename_i h2
  split at h
  · rename_i h3
    unfold piece
    rw [if_neg h1, if_neg h2, if_pos h3]; exact h
  rename_i h3
  split at h
  · rename_i h4
    split at h
    · cases h
    rename_i h5
    injection h with e1 e2 e3 e4
    subst e4
    have hn : headNot alnB x := by
      rcases hx with hx | hx
      · exact headNot_of hx (run_drop _ _)
      · exact soft_aln hx
    unfold piece
    rw [if_neg h1, if_neg h2, if_neg h3, if_pos h4, run_ext _ _ _ hn, if_neg h5, run_take, e1, e2, e3]
  rename_i h4
  split at h
  · rename_i h5
    obtain rfl := numP_tok h
    have hn : headNot digB x := by
      rcases hx with hx | hx
      · exact headNot_of hx (run_drop _ _)
      · exact soft_dig hx
    unfold piece
    rw [if_neg h1, if_neg h2, if_neg h3, if_neg h4, if_pos h5, run_ext _ _ _ hn, run_take]; exact h
  rename_i h5
  split at h
  · rename_i h6
    obtain rfl := numP_tok h
    have hn : headNot digB x := by
      rcases hx with hx | hx
      · exact headNot_of hx (run_drop _ _)
      · exact soft_dig hx
    unfold piece
    rw [if_neg h1, if_neg h2, if_neg h3, if_neg h4, if_neg h5, run_ext _ _ _ hn, if_pos h6, run_take]; exact h
  rename_i h6
  split at h
  · rename_i h7
    injection h with e1 e2 e3 e4
    subst e4
    cases r with
    | nil => simp at h7
    | cons c r =>
      simp at h7
      have h6' : ¬ (b.toNat = 95 ∧ 0 < run digB ((c :: r).take 1 ++ x)) := by omega
      unfold piece
      rw [if_neg h1, if_neg h2, if_neg h3, if_neg h4, if_neg h5, if_neg h6', if_pos (by simp [h7]), e1, e2, e3]
  rename_i h7
  split at h
  · rename_i h8
    injection h with e1 e2 e3 e4
    subst e4
    have h9 : b.toNat ≠ 95 := by
      intro e; unfold oneB at h8; rw [e] at h8; revert h8; decide
    have h7' : ¬ ((b.toNat = 60 ∨ b.toNat = 62) ∧ (r.take 0 ++ x).head? = some 61) := by
      rintro ⟨e, hh⟩
      rcases hx with hx | hx
      · exact h7 ⟨e, by simpa [hx] using hh⟩
      · exact soft_eq hx (by simpa using hh)
    unfold piece
    rw [if_neg h1, if_neg h2, if_neg h3, if_neg h4, if_neg h5, if_neg (by simp [h9]), if_neg h7', if_pos h8, e1, e2, e3]
  · cases h
/-- What is skipped is a blank or a note. -/
theorem piece_skip {b : UInt8} {r : List UInt8} {k : Nat} (h : piece b r = .skip k) : (blB b = true ∧ k = 0 ∧ ∀ y, piece b y = .skip 0) ∨ (k = run nlB r ∧ ∀ y, piece b y = .skip (run nlB y)) := by
  unfold piece at h
  split at h
  · rename_i h1
    injection h with h
    exact .inl ⟨h1, h.symm, fun y => by unfold piece; rw [if_pos h1]⟩
  rename_i h1
  split at h
  · rename_i h2
    injection h with h
    exact .inr ⟨h.symm, fun y => by unfold piece; rw [if_neg h1, if_pos h2]⟩
  exfalso
  split at h
  · cases h
  split at h
  · split at h <;> cases h
  split at h
  · exact numP_skip h
  split at h
  · exact numP_skip h
  split at h
  · cases h
  split at h <;> cases h
theorem piece_le {b : UInt8} {r : List UInt8} {kd v : Int} {w : List UInt8} {k : Nat} (h : piece b r = .tok kd w v k) : k ≤ r.length := by
  unfold piece at h
  split at h
  · cases h
  split at h
  · cases h
  split at h
  · injection h with _ _ _ e; omega
  split at h
  · split at h
    · cases h
    · injection h with _ _ _ e; have := run_le alnB r; omega
  split at h
  · have := numP_tok h; have := run_le digB r; omega
  split at h
  · have := numP_tok h; have := run_le digB r; omega
  split at h
  · rename_i h7
    injection h with _ _ _ e
    cases r with
    | nil => simp at h7
    | cons c r => simp; omega
  split at h
  · injection h with _ _ _ e; omega
  · cases h
theorem skip_le {b : UInt8} {r : List UInt8} {k : Nat} (h : piece b r = .skip k) : k ≤ r.length := by
  rcases piece_skip h with ⟨_, h, _⟩ | ⟨h, _⟩
  · omega
  · have := run_le nlB r; omega

/-! ### where pieces begin -/
inductive Reach : List UInt8 → Nat → Prop where
  | here (l : List UInt8) : Reach l 0
  | skip {b : UInt8} {r : List UInt8} {k m : Nat} (h : piece b r = .skip k) (hr : Reach (r.drop k) m) : Reach (b :: r) (1 + k + m)
  | tok {b : UInt8} {r : List UInt8} {kd v : Int} {w : List UInt8} {k m : Nat} (h : piece b r = .tok kd w v k) (hr : Reach (r.drop k) m) : Reach (b :: r) (1 + k + m)
/-- A note ahead of x takes what it takes, and nothing comes of it. -/
def swallow (x : List UInt8) : Prop := ∀ a : Int, lexL (x.drop (run nlB x)) (a + run nlB x) = lexL x a
theorem Reach.le {l : List UInt8} {m : Nat} (h : Reach l m) : m ≤ l.length := by
  induction h with
  | here => omega
  | skip h _ ih => have := skip_le h; simp at *; omega
  | tok h _ ih => have := piece_le h; simp at *; omega
theorem head_drop {l : List UInt8} {k m : Nat} (hm : 0 < m) (hl : k + m ≤ l.length) (x : List UInt8) : ((l.drop k).take m ++ x).head? = (l.drop k).head? := by
  cases h : l.drop k with
  | nil => have := congrArg List.length h; simp at this; omega
  | cons c r =>
    cases m with
    | zero => omega
    | succ m => simp
theorem take_split (l : List UInt8) (k m : Nat) : l.take (k + m) = l.take k ++ (l.drop k).take m := by rw [List.take_add]
theorem take_drop (l : List UInt8) (k : Nat) (hk : k ≤ l.length) (y : List UInt8) : (l.take k ++ y).drop k = y := by
  rw [List.drop_append_of_le_length (by rw [List.length_take]; omega)]
  rw [List.drop_of_length_le (by rw [List.length_take]; omega)]; rfl
/-- A text that is cut where a piece begins, with something else behind. -/
theorem Reach.ext {l : List UInt8} {m : Nat} (h : Reach l m) (a : Int) : ∃ us, lexL l a = Rs.pre us (lexL (l.drop m) (a + m)) ∧ ∀ x, soft x → (swallow x ∨ ∃ c, (l.drop m).head? = some c ∧ c.toNat ≠ 10) → lexL (l.take m ++ x) a = Rs.pre us (lexL x (a + m)) := by
  induction h generalizing a with
  | here l => exact ⟨[], by simp [pre_nil], fun x _ _ => by simp [pre_nil]⟩
  | @skip b r k m h hr ih =>
    have hkl := skip_le h
    have hml := hr.le
    rw [List.length_drop] at hml
    obtain ⟨us, h1, h2⟩ := ih (a + 1 + k)
    have ed : (b :: r).drop (1 + k + m) = (r.drop k).drop m := by rw [show 1 + k + m = (k + m) + 1 from by omega, List.drop_succ_cons, List.drop_drop]
    have et : ∀ x, (b :: r).take (1 + k + m) ++ x = b :: (r.take k ++ ((r.drop k).take m ++ x)) := fun x => by
      rw [show 1 + k + m = (k + m) + 1 from by omega, List.take_succ_cons, take_split]; simp
    have ep : ((1 + k + m : Nat) : Int) = 1 + k + m := by omega
    refine ⟨us, by rw [lex_skip h, h1, ed, ep]; simp only [Int.add_assoc], fun x hx hs => ?_⟩
    rw [et, ep, show a + (1 + (k : Int) + m) = a + 1 + k + m from by omega]
    rw [ed] at hs
    rcases piece_skip h with ⟨_, rfl, hp⟩ | ⟨hk, hp⟩
    · rw [lex_skip (hp _)]
      simpa using h2 x hx hs
    · by_cases hm : 0 < m
      · have e : run nlB (r.take k ++ ((r.drop k).take m ++ x)) = k := by
          rw [hk]; exact run_ext _ _ _ (headNot_of (by rw [← hk]; exact head_drop hm (by omega) x) (run_drop nlB r))
        rw [lex_skip (hp _), e, take_drop _ _ hkl]
        exact h2 x hx hs
      · obtain rfl : m = 0 := by omega
        have e : run nlB (r.take k ++ ((r.drop k).take 0 ++ x)) = k + run nlB x := by
          rw [List.take_zero, List.nil_append, hk]; exact run_add _ _ _
        rw [lex_skip (hp _), e]
        have ed2 : (r.take k ++ ((r.drop k).take 0 ++ x)).drop (k + run nlB x) = x.drop (run nlB x) := by
          rw [← List.drop_drop, take_drop _ _ hkl]; simp
        rw [ed2]
        rcases hs with hs | ⟨c, hc, hc'⟩
        · have h3 := h2 x hx (.inl hs)
          simp only [List.take_zero, List.nil_append] at h3
          rw [show a + 1 + ((k + run nlB x : Nat) : Int) = a + 1 + k + run nlB x from by omega, hs]
          exact h3
        · exfalso
          have := run_drop nlB r c (by rw [← hk]; simpa using hc)
          unfold nlB at this
          simp at this
          exact hc' this
  | @tok b r kd v w k m h hr ih =>
    have hkl := piece_le h
    have hml := hr.le
    rw [List.length_drop] at hml
    obtain ⟨us, h1, h2⟩ := ih (a + 1 + k)
    have ed : (b :: r).drop (1 + k + m) = (r.drop k).drop m := by rw [show 1 + k + m = (k + m) + 1 from by omega, List.drop_succ_cons, List.drop_drop]
    have et : ∀ x, (b :: r).take (1 + k + m) ++ x = b :: (r.take k ++ ((r.drop k).take m ++ x)) := fun x => by
      rw [show 1 + k + m = (k + m) + 1 from by omega, List.take_succ_cons, take_split]; simp
    have ep : ((1 + k + m : Nat) : Int) = 1 + k + m := by omega
    refine ⟨⟨kd, a, w, v⟩ :: us, by rw [lex_tok h, h1, ed, ep, pre_pre]; simp only [Int.add_assoc]; rfl, fun x hx hs => ?_⟩
    rw [et, ep, show a + (1 + (k : Int) + m) = a + 1 + k + m from by omega]
    rw [ed] at hs
    have hp : piece b (r.take k ++ ((r.drop k).take m ++ x)) = .tok kd w v k := by
      refine piece_tok h _ ?_
      by_cases hm : 0 < m
      · exact .inl (head_drop hm (by omega) x)
      · obtain rfl : m = 0 := by omega
        right; simpa using hx
    rw [lex_tok hp, take_drop _ _ hkl, h2 x hx hs, pre_pre]; rfl
end Go.Proofs.YtbapgdhcbfpdoaaGreatDoor
/- What digits spell; laws of how a text is cut: imports nothing of the program. -/
namespace Go.Proofs.YtbapgdhcbfpdoaaGreatDoor
open Go.RowKit
/-! ### numbers -/
theorem mag_ge : ∀ (ds : List UInt8) (acc : Nat), acc ≤ mag acc ds
  | [], _ => Nat.le_refl _
  | c :: r, acc => by
    have := mag_ge r (acc * 10 + (c.toNat - 48))
    rw [mag_cons]; omega
theorem digB_iff (c : UInt8) : digB c = true ↔ 48 ≤ c.toNat ∧ c.toNat ≤ 57 := by unfold digB; simp

theorem uint_ok (ds : List UInt8) : ∀ (acc : Nat), (∀ c ∈ ds, digB c = true) → mag acc ds < 18446744073709551616 → Lib.parseUint10 acc ds = .ok (mag acc ds) := by
  induction ds with
  | nil => intro acc _ _; rfl
  | cons c r ih =>
    intro acc hd h
    have hc := (digB_iff c).1 (hd c (by simp))
    rw [mag_cons] at h ⊢
    have hge := mag_ge r (acc * 10 + (c.toNat - 48))
    rw [Lib.parseUint10, if_pos hc, if_neg (by omega), if_neg (by omega)]
    exact ih _ (fun c hc => hd c (by simp [hc])) h
theorem uint_range (ds : List UInt8) : ∀ (acc : Nat), (∀ c ∈ ds, digB c = true) → acc < 18446744073709551616 → 18446744073709551616 ≤ mag acc ds → Lib.parseUint10 acc ds = .range := by
  induction ds with
  | nil => intro acc _ h0 h; have e : mag acc [] = acc := rfl; omega
  | cons c r ih =>
    intro acc hd h0 h
    have hc := (digB_iff c).1 (hd c (by simp))
    rw [mag_cons] at h
    rw [Lib.parseUint10, if_pos hc]
    by_cases h1 : 1844674407370955162 ≤ acc
    · rw [if_pos h1]
    · rw [if_neg h1]
      by_cases h2 : 18446744073709551616 ≤ acc * 10 + (c.toNat - 48)
      · rw [if_pos h2]
      · rw [if_neg h2]
        exact ih _ (fun c hc => hd c (by simp [hc])) (by omega) h
def numE (o : Option Int) : Lib.NumEnd Int := match o with
  | some v => .ok v
  | none => .range
theorem two63 : (2 : Nat) ^ (64 - 1) = 9223372036854775808 := by decide
theorem mag_uint (ds : List UInt8) (h0 : ds ≠ []) (hd : ∀ c ∈ ds, digB c = true) : (mag 0 ds < 18446744073709551616 ∧ Lib.parseUintB 64 ds = .ok (mag 0 ds)) ∨ (18446744073709551616 ≤ mag 0 ds ∧ Lib.parseUintB 64 ds = .range) := by
  rw [Lib.parseUintB_64, Lib.parseMag, if_neg h0]
  rcases Nat.lt_or_ge (mag 0 ds) 18446744073709551616 with h | h
  · exact .inl ⟨h, uint_ok ds 0 hd h⟩
  · exact .inr ⟨h, uint_range ds 0 hd (by omega) h⟩
theorem parse_neg (ds : List UInt8) (h0 : ds ≠ []) (hd : ∀ c ∈ ds, digB c = true) : Lib.parseIntB 64 (45 :: ds) = numE (numR true ds) := by
  rw [Lib.parseIntB_minus, two63]
  rcases mag_uint ds h0 hd with ⟨h, e⟩ | ⟨h, e⟩
  · rw [e]
    unfold numR Lib.signedC
    dsimp only
    rw [if_pos rfl]
    rcases Nat.lt_or_ge 9223372036854775808 (mag 0 ds) with h1 | h1
    · rw [if_pos h1, if_neg (by omega)]; rfl
    · rw [if_neg (by omega), if_pos h1]; rfl
  · rw [e]
    unfold numR Lib.signedC
    dsimp only
    rw [if_pos rfl, if_neg (by omega)]; rfl
theorem parse_pos (c : UInt8) (r : List UInt8) (hd : ∀ d ∈ c :: r, digB d = true) : Lib.parseIntB 64 (c :: r) = numE (numR false (c :: r)) := by
  have hc := (digB_iff c).1 (hd c (by simp))
  rw [Lib.parseIntB_plain _ _ _ (by omega) (by omega), two63]
  rcases mag_uint (c :: r) (by simp) hd with ⟨h, e⟩ | ⟨h, e⟩
  · rw [e]
    unfold numR Lib.signlessC
    dsimp only
    rw [if_neg Bool.false_ne_true]
    rcases Nat.lt_or_ge (mag 0 (c :: r)) 9223372036854775808 with h1 | h1
    · rw [if_neg (by omega), if_pos h1]; rfl
    · rw [if_pos h1, if_neg (by omega)]; rfl
  · rw [e]
    unfold numR Lib.signlessC
    dsimp only
    rw [if_neg Bool.false_ne_true, if_neg (by omega)]; rfl
end Go.Proofs.YtbapgdhcbfpdoaaGreatDoor
