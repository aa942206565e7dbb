/- What the laws' walks share: results read as lists of monomials. -/
import Derived.Test.YtogflbpphacokaaLiftB
namespace Go.Proofs.Ytogflbpphacokaa
open Go.RowKit

def Okl (l : List Mo) : Prop := l.length ≤ 48 ∧ ∀ m ∈ l, m.wf
theorem Okl.nil : Okl [] := ⟨by simp, by simp⟩
theorem whole_ok {ms : List Mo} (hs : Sm ms) : Okl (wholeR (accL ms)).1 := by
  unfold wholeR
  split
  · rename_i h
    exact ⟨((right_iff _).1 h).1, fun m hm => (sum_wf hs m hm).1⟩
  · exact Okl.nil
theorem add_ok {p q : List Mo} {t : Int} (ht : t = 1 ∨ t = -1) (hp : ∀ m ∈ p, m.wf) (hq : ∀ m ∈ q, m.wf) : Okl (addR t p q).1 := by
  by_cases h : rightB p = true ∧ rightB q = true
  · rw [addR_yes h.1 h.2]; exact whole_ok (sm_add ht h.1 h.2 hp hq)
  · rw [addR_no h]; exact Okl.nil
theorem mul_ok {p q : List Mo} (hp : ∀ m ∈ p, m.wf) (hq : ∀ m ∈ q, m.wf) : Okl (mulR p q).1 := by
  by_cases h : rightB p = true ∧ rightB q = true
  · rw [mulR_yes h.1 h.2]; exact whole_ok (sm_mul h.1 h.2 hp hq)
  · rw [mulR_no h]; exact Okl.nil
theorem const_ok (n : Int) : Okl (constR n).1 := by
  unfold constR
  split
  · rename_i h
    simp only [fitsB, Bool.and_eq_true, decide_eq_true_eq] at h
    split
    · exact Okl.nil
    · refine ⟨by simp, fun m hm => ?_⟩
      simp at hm
      subst hm
      refine Mo.wf_mk ?_ ?_ ?_ ?_ ?_ ?_ ?_ <;> simp <;> omega
  · exact Okl.nil
theorem var_ok (k : Int) : Okl (varR k).1 := by
  unfold varR
  split
  · refine ⟨by simp, fun m hm => ?_⟩
    simp at hm
    subst hm
    refine Mo.wf_mk ?_ ?_ ?_ ?_ ?_ ?_ ?_ <;> simp <;> (try split) <;> omega
  · exact Okl.nil
theorem Okl.max {l : List Mo} (h : Okl l) : l.length ≤ maxLen := by
  have := h.1
  unfold maxLen
  omega
theorem Own.ok {w : World} {base : Nat} {A : Option Addr} {c : Nat} {l : List Mo} (h : Own w base (.slice A l.length c) l) (hk : Okl l) : Rd w w.heap.size A l := h.rd hk.2
theorem same_self (A B : Option Addr) (l : List Mo) (c d : Nat) (w : World) (h : Rd w w.heap.size A l) (g : Rd w w.heap.size B l) (hl : l.length ≤ maxLen) : Calls Try.prog 23 #[.slice A l.length c, .slice B l.length d] w fun e w' => e = .returned (.bool true) ∧ Gr w w' := by
  have := same_any A B l l c d w h g hl
  rwa [show sameB l l = true by simp [sameB]] at this
end Go.Proofs.Ytogflbpphacokaa
