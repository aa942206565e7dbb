/- A token's one text, and when it is one: over plain lists. -/
import Derived.Test.YtphcjpomneejmaaDoorLexR
import Derived.Test.YtphcjpomneejmaaDoorLexQ
namespace Go.Proofs.YtphcjpomneejmaaDoor
open Go.RowKit

def txt (t : Tk) : List UInt8 := if t.k = 2 then digs t.n else if t.k = 4 then [10] else t.w
/-- The token has a text. -/
def Sp (t : Tk) : Prop := ∃ b r, txt t = b :: r ∧ r.length < 100 ∧ blB b = false ∧ b.toNat ≠ 35 ∧ piece b r = .tok t.k t.w t.n r.length

theorem lex_places : ∀ (n : Nat) (l : List UInt8) (a : Int), l.length ≤ n → ∀ ts, lexL l a = .ok ts → (∀ t ∈ ts, a ≤ t.a ∧ t.a < a + l.length) ∧ ts.Pairwise (fun x y => x.a < y.a) := by
  intro n
  induction n with
  | zero =>
    intro l a hl ts h
    obtain rfl : l = [] := List.length_eq_zero_iff.1 (by omega)
    rw [lex_nil] at h; injection h with h; subst h
    exact ⟨fun t ht => by simp at ht, List.Pairwise.nil⟩
  | succ n ih =>
    intro l a hl ts h
    cases l with
    | nil => rw [lex_nil] at h; injection h with h; subst h; exact ⟨fun t ht => by simp at ht, List.Pairwise.nil⟩
    | cons b r =>
      simp at hl
      cases hp : piece b r with
      | skip k =>
        rw [lex_skip hp] at h
        have hk := skip_le hp
        have h1 := ih _ _ (by rw [List.length_drop]; omega) _ h
        refine ⟨fun t ht => ?_, h1.2⟩
        have := h1.1 t ht
        rw [List.length_drop] at this
        simp; omega
      | tok kd w v k =>
        rw [lex_tok hp] at h
        have hk := piece_le hp
        obtain ⟨vs, hv, rfl⟩ := pre_ok h
        have h1 := ih _ _ (by rw [List.length_drop]; omega) _ hv
        refine ⟨fun t ht => ?_, ?_⟩
        · simp only [List.cons_append, List.nil_append, List.mem_cons] at ht
          rcases ht with rfl | ht
          · simp; omega
          · have := h1.1 t ht
            rw [List.length_drop] at this
            simp; omega
        · refine List.pairwise_cons.2 ⟨fun t ht => ?_, h1.2⟩
          have := h1.1 t ht
          simp; omega
      | bad e => rw [lex_bad hp] at h; cases h
theorem piece_head {b : UInt8} {r : List UInt8} {kd v : Int} {w : List UInt8} {k : Nat} (h : piece b r = .tok kd w v k) : blB b = false ∧ b.toNat ≠ 35 := by
  unfold piece at h
  split at h
  · cases h
  rename_i h1
  split at h
  · cases h
  rename_i h2
  exact ⟨by simpa using h1, h2⟩
/-- What a token's piece is, by its kind. -/
theorem piece_kind {b : UInt8} {r : List UInt8} {kd v : Int} {w : List UInt8} {k : Nat} (h : piece b r = .tok kd w v k) :
    (kd = 4 ∧ w = [] ∧ k = 0 ∧ v = 0) ∨ (kd = 2 ∧ w = [] ∧ k = run digB r ∧ -9223372036854775808 ≤ v ∧ v ≤ 9223372036854775807) ∨ ((kd = 1 ∨ kd = 3) ∧ w = b :: r.take k ∧ k ≤ 15 ∧ v = 0) := by
  have hnum : ∀ {o : Option Int} {j : Nat}, (∀ x, o = some x → -9223372036854775808 ≤ x ∧ x ≤ 9223372036854775807) → numP o j = .tok kd w v k → kd = 2 ∧ w = [] ∧ k = j ∧ -9223372036854775808 ≤ v ∧ v ≤ 9223372036854775807 := by
    intro o j ho hp
    cases o with
    | none => cases hp
    | some x => injection hp with h1 h2 h3 h4; subst h3; exact ⟨h1.symm, h2.symm, h4.symm, ho x rfl⟩
  have hbd : ∀ (neg : Bool) (ds : List UInt8) (x : Int), numR neg ds = some x → -9223372036854775808 ≤ x ∧ x ≤ 9223372036854775807 := by
    intro neg ds x hx
    unfold numR at hx
    cases neg
    · rw [if_neg Bool.false_ne_true] at hx
      split at hx
      · injection hx with hx; omega
      · cases hx
    · rw [if_pos rfl] at hx
      split at hx
      · injection hx with hx; omega
      · cases hx
  unfold piece at h
  split at h
  · cases h
  split at h
  · cases h
  split at h
  · injection h with h1 h2 h3 h4; exact .inl ⟨h1.symm, h2.symm, h4.symm, h3.symm⟩
  split at h
  · split at h
    · cases h
    · rename_i hn
      injection h with h1 h2 h3 h4
      subst h4
      exact .inr (.inr ⟨.inl h1.symm, h2.symm, by omega, h3.symm⟩)
  split at h
  · exact .inr (.inl (hnum (hbd _ _) h))
  split at h
  · exact .inr (.inl (hnum (hbd _ _) h))
  split at h
  · rename_i h7
    injection h with h1 h2 h3 h4
    subst h4
    refine .inr (.inr ⟨.inr h1.symm, ?_, by omega, h3.symm⟩)
    cases r with
    | nil => simp at h7
    | cons c r => simp at h7; rw [← h2, h7.2]; rfl
  split at h
  · injection h with h1 h2 h3 h4
    subst h4
    exact .inr (.inr ⟨.inr h1.symm, by rw [← h2]; rfl, by omega, h3.symm⟩)
  · cases h
theorem dec_dig (u : Nat) : ∀ c ∈ Lib.decDigits u, digB c = true := by
  induction u using Nat.strongRecOn with
  | _ u ih =>
    by_cases h : 9 < u
    · rw [dec_step h]
      intro c hc
      rcases List.mem_append.1 hc with hc | hc
      · exact ih (u / 10) (by omega) c hc
      · simp only [List.mem_singleton] at hc
        subst hc
        rw [digB_iff, UInt8.toNat_ofNat_of_lt' (by show _ < 256; omega)]
        omega
    · rw [dec_last h]
      intro c hc
      simp only [List.mem_singleton] at hc
      subst hc
      rw [digB_iff, UInt8.toNat_ofNat_of_lt' (by show _ < 256; omega)]
      omega
theorem dec_ne (u : Nat) : Lib.decDigits u ≠ [] := by
  by_cases h : 9 < u
  · rw [dec_step h]; simp
  · rw [dec_last h]; simp
theorem digs_len {n : Int} (h0 : -9223372036854775808 ≤ n) (h1 : n ≤ 9223372036854775807) : (digs n).length ≤ 21 := by
  unfold digs
  have := dec_len (u := n.natAbs) (by omega)
  split
  · simp; omega
  · omega
/-- Behind a number's first byte stand digits. -/
theorem digs_tail {n : Int} {b : UInt8} {r : List UInt8} (h : digs n = b :: r) : ∀ c ∈ r, digB c = true := by
  unfold digs at h
  split at h
  · injection h with h1 h2; subst h2; exact dec_dig _
  · intro c hc; exact dec_dig _ c (by rw [h]; simp [hc])
theorem digs_head {n : Int} {b : UInt8} {r : List UInt8} (h : digs n = b :: r) : blB b = false ∧ b.toNat ≠ 35 := by
  have : b.toNat = 95 ∨ digB b = true := by
    unfold digs at h
    split at h
    · injection h with h1 h2; subst h1; exact .inl rfl
    · exact .inr (dec_dig _ b (by rw [h]; simp))
  rcases this with h | h
  · exact ⟨by unfold blB; simp [h], by omega⟩
  · have := (digB_iff b).1 h
    exact ⟨by unfold blB; simp; omega, by omega⟩
theorem digs_cons {n : Int} : ∃ b r, digs n = b :: r := by
  unfold digs
  split
  · exact ⟨_, _, rfl⟩
  · cases h : Lib.decDigits n.natAbs with
    | nil => exact (dec_ne _ h).elim
    | cons b r => exact ⟨b, r, rfl⟩
/-- Reading a token's text alone tells whether it is one. -/
theorem sp_iff (t : Tk) (h0 : -9223372036854775808 ≤ t.n) (h1 : t.n ≤ 9223372036854775807) : lexR (txt t) = .ok [{ t with a := 0 }] ↔ Sp t := by
  constructor
  · intro h
    unfold lexR at h
    split at h
    · cases h
    obtain ⟨b, r, hl⟩ : ∃ b r, txt t = b :: r := by
      cases hl : txt t with
      | nil => rw [hl, lex_nil] at h; injection h with h; cases h
      | cons b r => exact ⟨b, r, rfl⟩
    rw [hl] at h
    cases hp : piece b r with
    | skip k =>
      rw [lex_skip hp] at h
      have := (lex_places _ _ _ (Nat.le_refl _) _ h).1 { t with a := 0 } (by simp)
      simp at this
      omega
    | bad e => rw [lex_bad hp] at h; cases h
    | tok kd w v k =>
      rw [lex_tok hp] at h
      obtain ⟨vs, hv, he⟩ := pre_ok h
      simp only [List.cons_append, List.nil_append, List.cons.injEq] at he
      obtain ⟨he, rfl⟩ := he
      rw [tk_eq] at he
      obtain ⟨e1, _, e3, e4⟩ := he
      simp only at e1 e3 e4
      subst e1 e3 e4
      have hkl := piece_le hp
      have hr : k = r.length ∧ r.length < 100 := by
        rcases piece_kind hp with ⟨hk, hw, hk0, _⟩ | ⟨hk, hw, hkr, _⟩ | ⟨hk, hw, h15, _⟩
        · unfold txt at hl
          rw [if_neg (by omega), if_pos hk] at hl
          injection hl with _ hr
          subst hr; simp; omega
        · unfold txt at hl
          rw [if_pos hk] at hl
          rw [run_full _ _ (digs_tail hl)] at hkr
          have := digs_len h0 h1
          rw [hl] at this
          simp at this
          omega
        · unfold txt at hl
          rw [if_neg (by omega), if_neg (by omega)] at hl
          rw [hl] at hw
          injection hw with _ hw
          have := congrArg List.length hw
          rw [List.length_take] at this
          omega
      obtain ⟨h2, h3⟩ := piece_head hp
      exact ⟨b, r, hl, hr.2, h2, h3, by rw [hp, hr.1]⟩
  · rintro ⟨b, r, hl, hr, h2, h3, hp⟩
    unfold lexR
    rw [hl, if_neg (by simp; omega), lex_tok hp, List.drop_length, lex_nil]
    rfl
/-- What the document's Spell answers says so, too. -/
theorem sp_next {t : Tk} {b : UInt8} {r : List UInt8} (hl : txt t = b :: r) (hr : r.length < 100) (h0 : blB b = false ∧ b.toNat ≠ 35) {x : Tk} {n e : Int} (hx : nextR 0 b r = (x, n, e)) :
    Sp t ↔ e = 0 ∧ n = ((r.length + 1 : Nat) : Int) ∧ x.k = t.k ∧ x.w = t.w ∧ x.n = t.n := by
  constructor
  · rintro ⟨b', r', hl', _, _, _, hp⟩
    rw [hl] at hl'
    injection hl' with e1 e2
    subst e1 e2
    rw [next_tok hp] at hx
    injection hx with e1 e2
    injection e2 with e2 e3
    subst e1 e2 e3
    exact ⟨rfl, by omega, rfl, rfl, rfl⟩
  · rintro ⟨rfl, hn, h1, h2, h3⟩
    have hs := next_sel h0 hx
    refine ⟨b, r, hl, hr, h0.1, h0.2, ?_⟩
    unfold nextR at hx
    split at hx
    · rename_i kd w v k hp
      injection hx with e1 e2
      injection e2 with e2 e3
      subst e1 e2
      simp only at h1 h2 h3
      rw [hp, h1, h2, h3, show k = r.length from by omega]
    · rename_i e' hp
      injection hx with e1 e2
      injection e2 with e2 e3
      exact (bad_ne hp e3).elim
    · injection hx with e1 e2
      injection e2 with e2 e3
      omega
end Go.Proofs.YtphcjpomneejmaaDoor
