/- What the four begins of a token say of how a text is cut. -/
import Derived.Test.YtphcjpomneejmaaDoorLexD
namespace Go.Proofs.YtphcjpomneejmaaDoor
open Go.RowKit

theorem lex_blanks : ∀ (n : Nat) (l : List UInt8) (a : Int), n ≤ run blB l → lexL l a = lexL (l.drop n) (a + n)
  | 0, l, a, _ => by simp
  | n + 1, [], a, h => by simp [run_nil] at h
  | n + 1, b :: r, a, h => by
    rw [run_cons] at h
    cases hb : blB b with
    | false => rw [hb] at h; simp at h
    | true =>
      rw [hb, if_pos rfl] at h
      have hp : piece b r = .skip 0 := by unfold piece; rw [if_pos hb]
      rw [lex_skip hp, List.drop_zero, List.drop_succ_cons, lex_blanks n r _ (by omega)]
      congr 1
      omega
theorem idle_le (b : UInt8) (r : List UInt8) : idleR b r ≤ r.length + 1 := by
  unfold idleR
  split
  · have := run_le nlB r; omega
  · have := run_le blB (b :: r); simpa using this
theorem idle_lex (b : UInt8) (r : List UInt8) (a : Int) : 0 < idleR b r → lexL (b :: r) a = lexL ((b :: r).drop (idleR b r)) (a + idleR b r) := by
  unfold idleR
  split
  · rename_i h
    intro _
    have hp : piece b r = .skip (run nlB r) := by unfold piece; rw [if_neg (by unfold blB; simp [h]), if_pos h]
    rw [lex_skip hp, List.drop_succ_cons]
    congr 1
    omega
  · intro _
    exact lex_blanks _ _ a (Nat.le_refl _)
theorem idle_no {b : UInt8} {r : List UInt8} (h : idleR b r = 0) : blB b = false ∧ b.toNat ≠ 35 := by
  unfold idleR at h
  split at h
  · omega
  · rename_i h35
    rw [run_cons] at h
    refine ⟨?_, h35⟩
    cases e : blB b
    · rfl
    · rw [e] at h; simp at h
/-- What an answer of the four says of the text. -/
def Sel (b : UInt8) (r : List UInt8) (x : Tk × Int × Int) : Prop :=
  (x.2.2 ≠ 0 → ∀ a, lexL (b :: r) a = .err a x.2.2) ∧ (x.2.2 = 0 → x.2.1 ≠ 0 → ∃ n : Nat, x.2.1 = n ∧ 0 < n ∧ n ≤ r.length + 1 ∧ ∀ a, lexL (b :: r) a = Rs.pre [{ x.1 with a := a }] (lexL ((b :: r).drop n) (a + n)))
theorem sel_none {b : UInt8} {r : List UInt8} : Sel b r (tk0, 0, 0) := ⟨fun h => (h rfl).elim, fun _ h => (h rfl).elim⟩
theorem sel_bad {b : UInt8} {r : List UInt8} {e : Int} (h : piece b r = .bad e) (he : e ≠ 0) : Sel b r (tk0, 0, e) := ⟨fun _ a => lex_bad h a, fun h => (he h).elim⟩
theorem sel_tok {b : UInt8} {r : List UInt8} {kd v : Int} {w : List UInt8} {k : Nat} (h : piece b r = .tok kd w v k) {n : Int} (hn : n = (k + 1 : Nat)) : Sel b r (⟨kd, 0, w, v⟩, n, 0) :=
  ⟨fun h => (h rfl).elim, fun _ _ => ⟨k + 1, hn, by omega, by have := piece_le h; omega, fun a => by
    rw [lex_tok h, List.drop_succ_cons]
    congr 2
    omega⟩⟩
theorem sel_line {b : UInt8} {r : List UInt8} (h : idleR b r = 0) : Sel b r (lineR b r) := by
  obtain ⟨h1, h2⟩ := idle_no h
  unfold lineR
  split
  · rename_i h3
    refine sel_tok (k := 0) ?_ rfl
    unfold piece; rw [if_neg (by rw [h1]; simp), if_neg h2, if_pos h3]
  · exact sel_none
theorem line_no {b : UInt8} {r : List UInt8} (h : (lineR b r).2.1 = 0) : b.toNat ≠ 10 := by
  unfold lineR at h; split at h
  · simp at h
  · assumption
theorem sel_word {b : UInt8} {r : List UInt8} (h : idleR b r = 0) (hl : (lineR b r).2.1 = 0) : Sel b r (wordR b r) := by
  obtain ⟨h1, h2⟩ := idle_no h
  have h3 := line_no hl
  unfold wordR
  split
  · rename_i h4
    split
    · rename_i h5
      refine sel_bad ?_ (by decide)
      unfold piece; rw [if_neg (by rw [h1]; simp), if_neg h2, if_neg h3, if_pos h4, if_pos h5]
    · rename_i h5
      refine sel_tok (k := run alnB r) ?_ rfl
      unfold piece; rw [if_neg (by rw [h1]; simp), if_neg h2, if_neg h3, if_pos h4, if_neg h5]
  · exact sel_none
theorem word_no {b : UInt8} {r : List UInt8} (h : (wordR b r).2.1 = 0) (he : (wordR b r).2.2 = 0) : letB b = false := by
  unfold wordR at h he; split at h
  · rename_i h1
    rw [if_pos h1] at he
    split at h
    · rename_i h2; rw [if_pos h2] at he; simp at he
    · simp at h; omega
  · rename_i h1; simpa using h1
theorem sel_numA {b : UInt8} {r : List UInt8} {o : Option Int} {k : Nat} (h : piece b r = numP o k) : Sel b r (numA o (k + 1)) := by
  cases o with
  | none => exact sel_bad h (by decide)
  | some v => exact sel_tok h rfl
theorem numA_no {o : Option Int} {k : Nat} (h : (numA o (k + 1)).2.1 = 0) (he : (numA o (k + 1)).2.2 = 0) : False := by
  cases o with
  | none => simp [numA] at he
  | some v => simp [numA] at h; omega
theorem dig95 {b : UInt8} (h : b.toNat = 95) : digB b = false := by unfold digB; simp; omega
theorem sel_number {b : UInt8} {r : List UInt8} (h : idleR b r = 0) (hl : (lineR b r).2.1 = 0) (hw : letB b = false) : Sel b r (numberR b r) := by
  obtain ⟨h1, h2⟩ := idle_no h
  have h3 := line_no hl
  unfold numberR
  split
  · rename_i h4
    split
    · rename_i h5
      refine sel_numA ?_
      unfold piece; rw [if_neg (by rw [h1]; simp), if_neg h2, if_neg h3, if_neg (by rw [hw]; simp), if_neg (by rw [dig95 h4]; simp), if_pos ⟨h4, h5⟩]
    · exact sel_none
  · rename_i h4
    split
    · rename_i h5
      refine sel_numA ?_
      unfold piece; rw [if_neg (by rw [h1]; simp), if_neg h2, if_neg h3, if_neg (by rw [hw]; simp), if_pos h5]
    · exact sel_none
theorem number_none {b : UInt8} {r : List UInt8} (h : (numberR b r).2.1 = 0) (he : (numberR b r).2.2 = 0) : digB b = false ∧ ¬ (b.toNat = 95 ∧ 0 < run digB r) := by
  unfold numberR at h he
  split at h
  · rename_i h1
    rw [if_pos h1] at he
    split at h
    · rename_i h2; rw [if_pos h2] at he; exact (numA_no h he).elim
    · rename_i h2; exact ⟨dig95 h1, fun h => h2 h.2⟩
  · rename_i h1
    rw [if_neg h1] at he
    split at h
    · rename_i h2; rw [if_pos h2] at he; exact (numA_no h he).elim
    · rename_i h2; exact ⟨by simpa using h2, fun h => h1 h.1⟩
theorem sel_sign {b : UInt8} {r : List UInt8} (h : idleR b r = 0) (hl : (lineR b r).2.1 = 0) (hw : letB b = false) (hn : digB b = false ∧ ¬ (b.toNat = 95 ∧ 0 < run digB r)) : Sel b r (signR b r) ∧ ((signR b r).2.1 = 0 → ∀ a, lexL (b :: r) a = .err a 31) := by
  obtain ⟨h1, h2⟩ := idle_no h
  have h3 := line_no hl
  unfold signR
  split
  · rename_i h4
    refine ⟨sel_tok (k := 1) ?_ rfl, fun h => by simp at h⟩
    unfold piece; rw [if_neg (by rw [h1]; simp), if_neg h2, if_neg h3, if_neg (by rw [hw]; simp), if_neg (by rw [hn.1]; simp), if_neg hn.2, if_pos h4]
  · rename_i h4
    split
    · rename_i h5
      refine ⟨sel_tok (k := 0) ?_ rfl, fun h => by simp at h⟩
      unfold piece; rw [if_neg (by rw [h1]; simp), if_neg h2, if_neg h3, if_neg (by rw [hw]; simp), if_neg (by rw [hn.1]; simp), if_neg hn.2, if_neg h4, if_pos h5]
    · rename_i h5
      refine ⟨sel_none, fun _ a => lex_bad ?_ a⟩
      unfold piece; rw [if_neg (by rw [h1]; simp), if_neg h2, if_neg h3, if_neg (by rw [hw]; simp), if_neg (by rw [hn.1]; simp), if_neg hn.2, if_neg h4, if_neg h5]
/-- The j-th of the four. -/
def begR (j : Nat) (b : UInt8) (r : List UInt8) : Tk × Int × Int := match j with
  | 0 => lineR b r
  | 1 => wordR b r
  | 2 => numberR b r
  | _ => signR b r
def NoneB (j : Nat) (b : UInt8) (r : List UInt8) : Prop := ∀ i, i < j → (begR i b r).2.1 = 0 ∧ (begR i b r).2.2 = 0
theorem sel_at {j : Nat} {b : UInt8} {r : List UInt8} (h : idleR b r = 0) (hj : j < 4) (hn : NoneB j b r) : Sel b r (begR j b r) := by
  match j, hj with
  | 0, _ => exact sel_line h
  | 1, _ => exact sel_word h (hn 0 (by omega)).1
  | 2, _ => exact sel_number h (hn 0 (by omega)).1 (word_no (hn 1 (by omega)).1 (hn 1 (by omega)).2)
  | 3, _ => exact (sel_sign h (hn 0 (by omega)).1 (word_no (hn 1 (by omega)).1 (hn 1 (by omega)).2) (number_none (hn 2 (by omega)).1 (hn 2 (by omega)).2)).1
theorem sel_all {b : UInt8} {r : List UInt8} (h : idleR b r = 0) (hn : NoneB 4 b r) (a : Int) : lexL (b :: r) a = .err a 31 :=
  (sel_sign h (hn 0 (by omega)).1 (word_no (hn 1 (by omega)).1 (hn 1 (by omega)).2) (number_none (hn 2 (by omega)).1 (hn 2 (by omega)).2)).2 (hn 3 (by omega)).1 a
end Go.Proofs.YtphcjpomneejmaaDoor
