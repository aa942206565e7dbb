/- Layer 4, put together: ParRx, ParRn. -/
import Derived.Test.YtbapgdhcbfpdoaaGreatDoorZM2
import Derived.Test.YtbapgdhcbfpdoaaGreatDoorYLf
/- Expressions, the document's way, over plain lists; that the code's way is the same. -/
namespace Go.Proofs.YtbapgdhcbfpdoaaGreatDoor
open Go.RowKit
theorem mk_suf (r : List Tk) : (mk r).2 <:+ r := by
  unfold mk
  split
  · exact List.suffix_refl _
  · split
    · exact List.suffix_cons _ _
    · exact List.suffix_refl _
theorem past_suf (r : List Tk) : pastNums r <:+ r := List.dropWhile_suffix _
/-- What is said of a list's rest. -/
structure Rest (ts rest : List Tk) : Prop where
  ends : Ends rest
  suf : rest <:+ ts
  cl : ∃ u r', rest = u :: r' ∧ closes u
theorem Rest.up {ts us rest : List Tk} (h : Rest ts rest) (g : ts <:+ us) : Rest us rest := ⟨h.ends, h.suf.trans g, h.cl⟩
def E4 (ts : List Tk) : Prop := ∀ t ∈ ts, t.k = 4 → t.w = []
theorem E4.suf {ts us : List Tk} (h : E4 us) (g : ts <:+ us) : E4 ts := fun t ht => h t (g.subset ht)
end Go.Proofs.YtbapgdhcbfpdoaaGreatDoor
/- A line's tokens, as the document's reader goes through them; what lexed words are. Pure. -/
namespace Go.Proofs.YtbapgdhcbfpdoaaGreatDoor
open Go.RowKit
/-- What is left of a line, from I on, with the line's end. -/
def tl (T : List Tk) (E : Int) (I : Nat) : List Tk := T.drop I ++ [⟨4, E, [], 0⟩]
/-- What the tokens of a line are like. -/
structure LT (T : List Tk) : Prop where
  k4 : ∀ t ∈ T, t.k ≠ 4
  k2 : ∀ t ∈ T, t.k = 2 → t.w = []
  kw : ∀ t ∈ T, t.w ≠ [] → t.k = 1 ∨ t.k = 3
  k1 : ∀ t ∈ T, t.k = 1 → wordB t.w = true
  k3 : ∀ t ∈ T, t.k = 3 → wordB t.w = false
  len : ∀ t ∈ T, t.w.length ≤ 16
theorem name_word {w : List UInt8} (h : nameB w = true) : wordB w = true := by
  unfold nameB at h
  simp only [Bool.and_eq_true] at h
  exact h.1.1.1
theorem LT.name {T : List Tk} (h : LT T) {t : Tk} (ht : t ∈ T) (hn : nameB t.w = true) : t.k = 1 := by
  have h1 := name_word hn
  have h2 : t.w ≠ [] := by rintro e; rw [e] at h1; cases h1
  rcases h.kw t ht h2 with h3 | h3
  · exact h3
  · rw [h.k3 t ht h3] at h1; cases h1
theorem LT.e4 {T : List Tk} (h : LT T) (E : Int) (I : Nat) : E4 (tl T E I) := by
  intro t ht
  unfold tl at ht
  rw [List.mem_append] at ht
  rcases ht with ht | ht
  · exact fun e => (h.k4 t (List.mem_of_mem_drop ht) e).elim
  · simp at ht; subst ht; exact fun _ => rfl
end Go.Proofs.YtbapgdhcbfpdoaaGreatDoor
