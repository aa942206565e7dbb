/- Contract of the document's answers for layer 3: sign. -/
import Derived.Test.YtphcjpomneejmaaDoorLexH
namespace Go.Proofs.YtphcjpomneejmaaDoor
open Go.RowKit

/-- The sign that begins a text; empty: none. -/
def oneW (b : UInt8) : List UInt8 := if oneB b then [b] else []
def signW (b : UInt8) (r : List UInt8) : List UInt8 := if (b.toNat = 60 ∨ b.toNat = 62) ∧ r.head? = some 61 then [b, 61] else oneW b
theorem ret_str {a b : ByteArray} (h : a = b) : Ending.returned (.string a) = .returned (.string b) := by rw [h]
theorem at_next {s : ByteArray} {k : Nat} {b : UInt8} {r : List UInt8} (h : s.data.toList.drop k = b :: r) : k < s.size ∧ ∀ hk : k < s.size, s[k] = b := by
  have hk : k < s.size := by
    rcases Nat.lt_or_ge k s.size with h1 | h1
    · exact h1
    · rw [List.drop_of_length_le (by rw [len_s]; exact h1)] at h; cases h
  refine ⟨hk, fun _ => ?_⟩
  have := drop_get s.data.toList k 0
  rw [h] at this
  rw [← get_s s k hk]
  exact this.symm
theorem at_next2 {s : ByteArray} {k : Nat} {b c : UInt8} {r : List UInt8} (h : s.data.toList.drop k = b :: c :: r) : k + 1 < s.size ∧ ∀ hk : k + 1 < s.size, s[k + 1] = c := by
  have h1 : s.data.toList.drop (k + 1) = c :: r := by rw [← List.drop_drop, h]; rfl
  exact at_next h1
theorem ext_at {s : ByteArray} {k n : Nat} {l : List UInt8} (h : s.data.toList.drop k = l) : s.extract k (k + n) = bs (l.take n) := bs_eq (by rw [ext_list, ← h, List.drop_take]; congr 1; omega)
set_option maxHeartbeats 1000000 in
theorem rsign_two (b : UInt8) (r : List UInt8) (s : ByteArray) (k : Nat) (w : World) (hs : s.size ≤ 140737488355328) (hl : s.data.toList.drop k = b :: 61 :: r) (hb : b.toNat = 60 ∨ b.toNat = 62) : Calls Tryd.prog 39 #[.string s, .int .i64 k] w fun e w' => e = .returned (.string (bs [b, 61])) ∧ w' = w := by
  obtain ⟨hk, hgA⟩ := at_next hl
  obtain ⟨hk1, hgB⟩ := at_next2 hl
  have hg := hgA hk
  have hg1 := hgB hk1
  clear hgA hgB
  have hk2 : k + 2 ≤ s.size := by omega
  have hq := Lib.hid (show s.extract k (k + 2) = bs [b, 61] from ext_at hl)
  have h61 : ((s[k + 1].toNat : Int) == 61) = true := by rw [hg1]; rfl
  clear hg1
  rcases hb with hb | hb
  · have h60 : ((s[k].toNat : Int) == 60) = true := by rw [hg, hb]; rfl
    have HL := Lib.hid hl
    clear hl hg hb
    go_enter Tryd.func39, Tryd.ntmps39
    go_wp2
    go_ret
    exact ⟨ret_str hq.out, rfl⟩
  · have h60 : ((s[k].toNat : Int) == 60) = false := by rw [hg, hb]; rfl
    have h62 : ((s[k].toNat : Int) == 62) = true := by rw [hg, hb]; rfl
    have HL := Lib.hid hl
    clear hl hg hb
    go_enter Tryd.func39, Tryd.ntmps39
    go_wp2
    go_ret
    exact ⟨ret_str hq.out, rfl⟩
set_option maxHeartbeats 4000000 in
theorem rsign_one (b : UInt8) (r : List UInt8) (s : ByteArray) (k : Nat) (w : World) (hs : s.size ≤ 140737488355328) (hl : s.data.toList.drop k = b :: r) (hb : ¬ ((b.toNat = 60 ∨ b.toNat = 62) ∧ r.head? = some 61)) : Calls Tryd.prog 39 #[.string s, .int .i64 k] w fun e w' => e = .returned (.string (bs (oneW b))) ∧ w' = w := by
  obtain ⟨hk, hgA⟩ := at_next hl
  have hg := Lib.hid (hgA hk)
  clear hgA
  have hk2 : k + 1 ≤ s.size := by omega
  have hq := Lib.hid (show s.extract k (k + 1) = bs [b] from ext_at hl)
  have fin : ∀ c : Int, ((s[k].toNat : Int) == c) = true → (signs.any fun n => (n : Int) == c) = true → (Ending.returned (.string (bs [b])) = .returned (.string (bs (oneW b)))) := fun c h1 h2 => by
    unfold oneW; rw [if_pos (by rw [← hg.out]; exact one_of h1 h2)]
  have hF := Lib.hid fin
  clear fin
  have hN := Lib.hid (show (∀ c ∈ signs, ((s[k].toNat : Int) == ((c : Nat) : Int)) = false) → Ending.returned (.string ⟨#[]⟩) = .returned (.string (bs (oneW b))) from fun h => by
    unfold oneW; rw [if_neg (by rw [← hg.out, one_not h]; simp)]; rfl)
  have HL := Lib.hid hl
  by_cases h2 : k + 1 < s.size
  · have hc : ¬ ((b.toNat = 60 ∨ b.toNat = 62) ∧ s[k + 1].toNat = 61) := fun ⟨h3, h4⟩ => hb ⟨h3, by
      have e : s.data.toList.drop (k + 1) = r := by rw [← List.drop_drop, hl]; rfl
      have e2 := get_s s (k + 1) h2
      rw [← e, List.head?_drop]
      rw [List.getD_eq_getElem?_getD] at e2
      rw [List.getElem?_eq_getElem (by simpa using h2)] at e2 ⊢
      have e3 : s.data.toList[k + 1] = s[k + 1] := e2
      rw [e3, UInt8.toNat_inj.1 (show s[k + 1].toNat = (61 : UInt8).toNat from h4)]⟩
    clear hb hl
    by_cases h60 : b.toNat = 60
    · have h61 : ((s[k + 1].toNat : Int) == 61) = false := by have : ¬ s[k + 1].toNat = 61 := fun e => hc ⟨.inl h60, e⟩
                                                              simp; omega
      have a60 : ((s[k].toNat : Int) == 60) = true := by rw [hg.out, h60]; rfl
      have a1 : ((s[k].toNat : Int)) = 60 := by rw [hg.out, h60]; rfl
      clear hc h60
      go_enter Tryd.func39, Tryd.ntmps39
      go_wp2
      go_ret
      exact ⟨(ret_str hq.out).trans (hF.out _ a60 (by decide)), rfl⟩
    · by_cases h62 : b.toNat = 62
      · have h61 : ((s[k + 1].toNat : Int) == 61) = false := by have : ¬ s[k + 1].toNat = 61 := fun e => hc ⟨.inr h62, e⟩
                                                                simp; omega
        have a60 : ((s[k].toNat : Int) == 62) = true := by rw [hg.out, h62]; rfl
        have a1 : ((s[k].toNat : Int)) = 62 := by rw [hg.out, h62]; rfl
        clear hc h60 h62
        go_enter Tryd.func39, Tryd.ntmps39
        go_wp2
        go_ret
        exact ⟨(ret_str hq.out).trans (hF.out _ a60 (by decide)), rfl⟩
      · have a60 : ((s[k].toNat : Int) == 60) = false := by rw [hg.out]; simp; omega
        have a62 : ((s[k].toNat : Int) == 62) = false := by rw [hg.out]; simp; omega
        clear hc h60 h62
        go_enter Tryd.func39, Tryd.ntmps39
        go_wp2
        all_goals
          go_ret
          first
          | exact ⟨(ret_str hq.out).trans (hF.out 43 (by assumption) (by decide)), rfl⟩
          | exact ⟨(ret_str hq.out).trans (hF.out 45 (by assumption) (by decide)), rfl⟩
          | exact ⟨(ret_str hq.out).trans (hF.out 42 (by assumption) (by decide)), rfl⟩
          | exact ⟨(ret_str hq.out).trans (hF.out 37 (by assumption) (by decide)), rfl⟩
          | exact ⟨(ret_str hq.out).trans (hF.out 124 (by assumption) (by decide)), rfl⟩
          | exact ⟨(ret_str hq.out).trans (hF.out 61 (by assumption) (by decide)), rfl⟩
          | exact ⟨(ret_str hq.out).trans (hF.out 126 (by assumption) (by decide)), rfl⟩
          | exact ⟨(ret_str hq.out).trans (hF.out 60 (by assumption) (by decide)), rfl⟩
          | exact ⟨(ret_str hq.out).trans (hF.out 62 (by assumption) (by decide)), rfl⟩
          | exact ⟨(ret_str hq.out).trans (hF.out 47 (by assumption) (by decide)), rfl⟩
          | exact ⟨(ret_str hq.out).trans (hF.out 92 (by assumption) (by decide)), rfl⟩
          | exact ⟨(ret_str hq.out).trans (hF.out 46 (by assumption) (by decide)), rfl⟩
          | exact ⟨(ret_str hq.out).trans (hF.out 58 (by assumption) (by decide)), rfl⟩
          | exact ⟨(ret_str hq.out).trans (hF.out 40 (by assumption) (by decide)), rfl⟩
          | exact ⟨(ret_str hq.out).trans (hF.out 41 (by assumption) (by decide)), rfl⟩
          | (refine ⟨hN.out fun c hc => ?_, rfl⟩
             simp only [signs, List.mem_cons, List.not_mem_nil, or_false] at hc
             rcases hc with rfl | rfl | rfl | rfl | rfl | rfl | rfl | rfl | rfl | rfl | rfl | rfl | rfl | rfl | rfl <;> assumption)
  · clear hb hl
    go_enter Tryd.func39, Tryd.ntmps39
    go_wp2
    all_goals
      go_ret
      first
      | exact ⟨(ret_str hq.out).trans (hF.out 43 (by assumption) (by decide)), rfl⟩
      | exact ⟨(ret_str hq.out).trans (hF.out 45 (by assumption) (by decide)), rfl⟩
      | exact ⟨(ret_str hq.out).trans (hF.out 42 (by assumption) (by decide)), rfl⟩
      | exact ⟨(ret_str hq.out).trans (hF.out 37 (by assumption) (by decide)), rfl⟩
      | exact ⟨(ret_str hq.out).trans (hF.out 124 (by assumption) (by decide)), rfl⟩
      | exact ⟨(ret_str hq.out).trans (hF.out 61 (by assumption) (by decide)), rfl⟩
      | exact ⟨(ret_str hq.out).trans (hF.out 126 (by assumption) (by decide)), rfl⟩
      | exact ⟨(ret_str hq.out).trans (hF.out 60 (by assumption) (by decide)), rfl⟩
      | exact ⟨(ret_str hq.out).trans (hF.out 62 (by assumption) (by decide)), rfl⟩
      | exact ⟨(ret_str hq.out).trans (hF.out 47 (by assumption) (by decide)), rfl⟩
      | exact ⟨(ret_str hq.out).trans (hF.out 92 (by assumption) (by decide)), rfl⟩
      | exact ⟨(ret_str hq.out).trans (hF.out 46 (by assumption) (by decide)), rfl⟩
      | exact ⟨(ret_str hq.out).trans (hF.out 58 (by assumption) (by decide)), rfl⟩
      | exact ⟨(ret_str hq.out).trans (hF.out 40 (by assumption) (by decide)), rfl⟩
      | exact ⟨(ret_str hq.out).trans (hF.out 41 (by assumption) (by decide)), rfl⟩
      | (refine ⟨hN.out fun c hc => ?_, rfl⟩
         simp only [signs, List.mem_cons, List.not_mem_nil, or_false] at hc
         rcases hc with rfl | rfl | rfl | rfl | rfl | rfl | rfl | rfl | rfl | rfl | rfl | rfl | rfl | rfl | rfl <;> assumption)
end Go.Proofs.YtphcjpomneejmaaDoor
