/- Lists in order, as they lie in memory while a monomial is put among them. -/
import Derived.Test.YtogflbpphacokaaPolyM
namespace Go.Proofs.Ytogflbpphacokaa

theorem list_eq {l r : List Mo} (h : ∀ j : Nat, l[j]? = r[j]?) : l = r := List.ext_getElem? h
/-- l, with m behind it, its members behind the place k moved on by one. -/
def curL (l : List Mo) (m : Mo) (k : Nat) : List Mo := if k = l.length then l ++ [m] else l.take (k + 1) ++ l.drop k
theorem curL_len (l : List Mo) (m : Mo) {k : Nat} (hk : k ≤ l.length) : (curL l m k).length = l.length + 1 := by
  unfold curL; split
  · simp
  · simp; omega
theorem curL_nth (l : List Mo) (m : Mo) {k j : Nat} (hk : k ≤ l.length) (hj : j ≤ k) (hl : j < l.length) : nth (curL l m k) j = nth l j := by
  unfold curL nth; rw [List.getD_eq_getElem?_getD, List.getD_eq_getElem?_getD]
  split
  · rw [List.getElem?_append_left hl]
  · rw [List.getElem?_append_left (by simp; omega), List.getElem?_take, if_pos (by omega)]
theorem curL_step (l : List Mo) (m : Mo) {k : Nat} (hk : k ≤ l.length) (h0 : 0 < k) : (curL l m k).set k (nth l (k - 1)) = curL l m (k - 1) := by
  have hn : nth l (k - 1) = l[k - 1]'(by omega) := by unfold nth; rw [List.getD_eq_getElem?_getD, List.getElem?_eq_getElem (by omega)]; rfl
  refine list_eq fun j => ?_
  have e2 : curL l m (k - 1) = l.take k ++ l.drop (k - 1) := by
    unfold curL; rw [if_neg (by omega), show k - 1 + 1 = k from by omega]
  rw [e2, List.getElem?_set, curL_len l m hk]
  by_cases h1 : k = j
  · subst h1
    rw [if_pos rfl, if_pos (by omega), List.getElem?_append_right (by simp; omega), hn]
    rw [List.length_take, Nat.min_eq_left hk, Nat.sub_self, List.getElem?_drop, Nat.add_zero, List.getElem?_eq_getElem]
  · rw [if_neg h1]
    unfold curL
    by_cases h2 : j < k
    · rw [List.getElem?_append_left (by simp; omega), List.getElem?_take, if_pos h2]
      split
      · rw [List.getElem?_append_left (by omega)]
      · rw [List.getElem?_append_left (by simp; omega), List.getElem?_take, if_pos (by omega)]
    · rw [List.getElem?_append_right (by simp; omega), List.getElem?_drop, List.length_take, Nat.min_eq_left hk]
      split
      · rename_i h3
        rw [List.getElem?_eq_none (by simp; omega), List.getElem?_eq_none (by omega)]
      · rw [List.getElem?_append_right (by simp; omega), List.getElem?_drop, List.length_take, Nat.min_eq_left (by omega)]
        (congr 1 <;> omega)
theorem curL_end (l : List Mo) (m : Mo) {i : Nat} (hi : i ≤ l.length) : (curL l m i).set i m = l.take i ++ m :: l.drop i := by
  refine list_eq fun j => ?_
  rw [List.getElem?_set, curL_len l m hi]
  by_cases h1 : i = j
  · subst h1
    rw [if_pos rfl, if_pos (by omega), List.getElem?_append_right (by simp; omega), List.length_take, Nat.min_eq_left hi, Nat.sub_self]
    rfl
  · rw [if_neg h1]
    unfold curL
    by_cases h2 : j < i
    · rw [List.getElem?_append_left (by simp; omega), List.getElem?_take, if_pos h2]
      split
      · rw [List.getElem?_append_left (by omega)]
      · rw [List.getElem?_append_left (by simp; omega), List.getElem?_take, if_pos (by omega)]
    · rw [List.getElem?_append_right (by simp; omega), List.length_take, Nat.min_eq_left hi]
      rw [show j - i = (j - i - 1) + 1 from by omega, List.getElem?_cons_succ, List.getElem?_drop]
      split
      · rw [List.getElem?_eq_none (by simp; omega), List.getElem?_eq_none (by omega)]
      · rw [List.getElem?_append_right (by simp; omega), List.getElem?_drop, List.length_take, Nat.min_eq_left (by omega)]
        (congr 1 <;> omega)
theorem putL_same {m : Mo} : ∀ {l : List Mo} {i : Nat}, (∀ j, j < i → m.code < (nth l j).code) → i < l.length → (nth l i).code = m.code → putL l m = l.set i { nth l i with n := (nth l i).n + m.n }
  | [], i, _, hi, _ => by simp at hi
  | a :: t, 0, _, _, he => by
    have he : a.code = m.code := by simpa [nth] using he
    unfold putL; rw [if_neg (by omega), if_pos he]; simp [nth]
  | a :: t, i + 1, h, hi, he => by
    have h0 : m.code < a.code := by have := h 0 (by omega); simpa [nth] using this
    rw [nth_cons_succ] at he ⊢
    unfold putL; rw [if_pos h0, List.set_cons_succ, putL_same (fun j hj => by have := h (j + 1) (by omega); rwa [nth_cons_succ] at this) (by simpa using hi) he]
theorem putL_new {m : Mo} : ∀ {l : List Mo} {i : Nat}, (∀ j, j < i → m.code < (nth l j).code) → i ≤ l.length → (i < l.length → (nth l i).code < m.code) → putL l m = l.take i ++ m :: l.drop i
  | [], i, _, hi, _ => by simp [putL]
  | a :: t, 0, _, _, he => by
    have he : a.code < m.code := by have := he (by simp); simpa [nth] using this
    unfold putL; rw [if_neg (by omega), if_neg (by omega)]; simp
  | a :: t, i + 1, h, hi, he => by
    have h0 : m.code < a.code := by have := h 0 (by omega); simpa [nth] using this
    unfold putL; rw [if_pos h0, putL_new (i := i) (fun j hj => by have := h (j + 1) (by omega); rwa [nth_cons_succ] at this) (by simpa using hi) (fun hl => by have := he (by simpa using hl); rwa [nth_cons_succ] at this)]
    rfl
end Go.Proofs.Ytogflbpphacokaa
