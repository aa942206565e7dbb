
/- Arrays (layer 6), pure: cells and lanes. -/
import Derived.Test.YtedfjmidcljmoaaArrM
namespace Go.Proofs.Ytedfjmidcljmoaa
set_option linter.unusedVariables false
/-- Of the first i numbers those of the k-th cell. -/
def cutA (d : List Int) (P k i : Nat) : List Int := ((d.take i).drop (k * P)).take P
theorem cut_zero (d : List Int) (P k : Nat) : cutA d P k 0 = [] := by unfold cutA; simp
theorem cut_step {d : List Int} {P k i : Nat} (h : i < d.length) (hP : 0 < P) : cutA d P k (i + 1) = if i / P = k then cutA d P k i ++ [d.getD i 0] else cutA d P k i := by
  have he : d.take (i + 1) = d.take i ++ [d.getD i 0] := by
    rw [List.take_add_one, List.getElem?_eq_getElem h, List.getD_eq_getElem?_getD, List.getElem?_eq_getElem h]; rfl
  have hl : (d.take i).length = i := by rw [List.length_take]; omega
  have hdm := Nat.div_add_mod i P
  have hml := Nat.mod_lt i hP
  unfold cutA
  rw [he]
  by_cases hk : k * P ≤ i
  · rw [List.drop_append_of_le_length (by omega)]
    have hA : ((d.take i).drop (k * P)).length = i - k * P := by rw [List.length_drop, hl]
    by_cases hc : i - k * P < P
    · have hik : i / P = k := by
        rw [Nat.div_eq_iff hP]
        constructor <;> omega
      have h1 : ((d.take i).drop (k * P) ++ [d.getD i 0]).take P = (d.take i).drop (k * P) ++ [d.getD i 0] := List.take_of_length_le (by rw [List.length_append, hA]; show i - k * P + 1 ≤ P; omega)
      have h2 : ((d.take i).drop (k * P)).take P = (d.take i).drop (k * P) := List.take_of_length_le (by omega)
      rw [if_pos hik, h1, h2]
    · have hik : ¬ i / P = k := by
        rintro rfl
        rw [Nat.mul_comm] at hk hc
        omega
      have h1 : ((d.take i).drop (k * P) ++ [d.getD i 0]).take P = ((d.take i).drop (k * P)).take P := List.take_append_of_le_length (by omega)
      rw [if_neg hik, h1]
  · have hik : ¬ i / P = k := by
      rintro rfl
      rw [Nat.mul_comm] at hk
      omega
    have h1 : (d.take i ++ [d.getD i 0]).drop (k * P) = [] := List.drop_of_length_le (by rw [List.length_append, hl]; show i + 1 ≤ k * P; omega)
    have h2 : (d.take i).drop (k * P) = [] := List.drop_of_length_le (by omega)
    rw [if_neg hik, h1, h2]
theorem cut_end {d : List Int} {P k : Nat} : cutA d P k d.length = (d.drop (k * P)).take P := by unfold cutA; rw [List.take_length]
/-- Parts of q numbers each. -/
def partsA (q : Nat) : Nat → List Int → List (List Int)
  | 0, _ => []
  | n + 1, d => d.take q :: partsA q n (d.drop q)
theorem parts_flat (q : Nat) : ∀ (n : Nat) (d : List Int), d.length = n * q → (partsA q n d).flatten = d
  | 0, d, h => by
    have : d = [] := List.length_eq_zero_iff.1 (by omega)
    rw [this]; rfl
  | n + 1, d, h => by
    rw [Nat.add_mul, Nat.one_mul] at h
    show d.take q ++ (partsA q n (d.drop q)).flatten = d
    rw [parts_flat q n (d.drop q) (by rw [List.length_drop]; omega), List.take_append_drop]
theorem parts_len (q : Nat) : ∀ (n : Nat) (d : List Int), (partsA q n d).length = n
  | 0, _ => rfl
  | n + 1, d => by show (partsA q n _).length + 1 = n + 1; rw [parts_len q n]
theorem parts_get (q : Nat) : ∀ (n : Nat) (d : List Int) (i : Nat), i < n → (partsA q n d).getD i [] = (d.drop (i * q)).take q
  | 0, _, _, h => absurd h (Nat.not_lt_zero _)
  | n + 1, d, 0, _ => by simp [partsA]
  | n + 1, d, i + 1, h => by
    show (partsA q n (d.drop q)).getD i [] = _
    rw [parts_get q n _ i (by omega), List.drop_drop, Nat.add_mul, Nat.one_mul, Nat.add_comm]
theorem parts_snoc (q : Nat) : ∀ (n : Nat) (d : List Int), partsA q (n + 1) d = partsA q n d ++ [(d.drop (n * q)).take q]
  | 0, d => by simp [partsA]
  | n + 1, d => by
    show d.take q :: partsA q (n + 1) (d.drop q) = d.take q :: partsA q n (d.drop q) ++ _
    rw [parts_snoc q n (d.drop q), List.drop_drop, Nat.add_mul, Nat.one_mul, Nat.add_comm q, List.cons_append]
end Go.Proofs.Ytedfjmidcljmoaa
