/- Laws of how a text is cut, over plain lists. -/
import Derived.Test.YtphcjpomneejmaaDoorLexT
namespace Go.Proofs.YtphcjpomneejmaaDoor
open Go.RowKit

def mv (d : Int) (t : Tk) : Tk := { t with a := t.a + d }
def Rs.mv (d : Int) : Rs → Rs
  | .ok ts => .ok (ts.map (Go.Proofs.YtphcjpomneejmaaDoor.mv d))
  | .err a e => .err (a + d) e
theorem lex_mv (d : Int) : ∀ (n : Nat) (l : List UInt8) (a : Int), l.length ≤ n → lexL l (a + d) = (lexL l a).mv d := by
  intro n
  induction n with
  | zero =>
    intro l a hl
    obtain rfl : l = [] := List.length_eq_zero_iff.1 (by omega)
    rw [lex_nil, lex_nil]; rfl
  | succ n ih =>
    intro l a hl
    cases l with
    | nil => rw [lex_nil, lex_nil]; rfl
    | cons b r =>
      simp at hl
      cases hp : piece b r with
      | skip k =>
        rw [lex_skip hp, lex_skip hp, ← ih _ _ (by rw [List.length_drop]; omega)]
        congr 1; omega
      | tok kd w v k =>
        rw [lex_tok hp, lex_tok hp, show a + d + 1 + (k : Int) = a + 1 + k + d from by omega, ih _ _ (by rw [List.length_drop]; omega)]
        cases lexL (r.drop k) (a + 1 + k) <;> rfl
      | bad e => rw [lex_bad hp, lex_bad hp]; rfl
theorem lex_from (l : List UInt8) (a : Int) : lexL l a = (lexL l 0).mv a := by
  have := lex_mv a _ l 0 (Nat.le_refl _)
  rwa [Int.zero_add] at this
theorem reach_full : ∀ (n : Nat) (l : List UInt8) (a : Int) (ts : List Tk), l.length ≤ n → lexL l a = .ok ts → Reach l l.length := by
  intro n
  induction n with
  | zero =>
    intro l a ts hl _
    obtain rfl : l = [] := List.length_eq_zero_iff.1 (by omega)
    exact Reach.here _
  | succ n ih =>
    intro l a ts hl h
    cases l with
    | nil => exact Reach.here _
    | cons b r =>
      simp at hl
      cases hp : piece b r with
      | skip k =>
        rw [lex_skip hp] at h
        have hk := skip_le hp
        have h1 := Reach.skip hp (ih _ _ _ (by rw [List.length_drop]; omega) h)
        rw [List.length_drop] at h1
        rwa [show 1 + k + (r.length - k) = (b :: r).length from by simp; omega] at h1
      | tok kd w v k =>
        rw [lex_tok hp] at h
        obtain ⟨vs, hv, _⟩ := pre_ok h
        have hk := piece_le hp
        have h1 := Reach.tok hp (ih _ _ _ (by rw [List.length_drop]; omega) hv)
        rw [List.length_drop] at h1
        rwa [show 1 + k + (r.length - k) = (b :: r).length from by simp; omega] at h1
      | bad e => rw [lex_bad hp] at h; cases h
theorem reach_tok : ∀ (n : Nat) (l : List UInt8) (a : Int) (us : List Tk) (t : Tk) (vs : List Tk), l.length ≤ n → lexL l a = .ok (us ++ t :: vs) → ∃ m : Nat, t.a = a + m ∧ m < l.length ∧ Reach l m ∧ lexL (l.drop m) (a + m) = .ok (t :: vs) := by
  intro n
  induction n with
  | zero =>
    intro l a us t vs hl h
    obtain rfl : l = [] := List.length_eq_zero_iff.1 (by omega)
    rw [lex_nil] at h; injection h with h; simp at h
  | succ n ih =>
    intro l a us t vs hl h
    cases l with
    | nil => rw [lex_nil] at h; injection h with h; simp at h
    | cons b r =>
      simp at hl
      cases hp : piece b r with
      | skip k =>
        rw [lex_skip hp] at h
        have hk := skip_le hp
        obtain ⟨m, h1, h2, h3, h4⟩ := ih _ _ _ _ _ (by rw [List.length_drop]; omega) h
        rw [List.length_drop] at h2
        refine ⟨1 + k + m, by omega, by simp; omega, Reach.skip hp h3, ?_⟩
        rw [show 1 + k + m = (k + m) + 1 from by omega, List.drop_succ_cons, ← List.drop_drop]
        rw [← h4]; congr 1; omega
      | tok kd w v k =>
        rw [lex_tok hp] at h
        have hk := piece_le hp
        obtain ⟨ws, hv, he⟩ := pre_ok h
        cases us with
        | nil =>
          simp only [List.nil_append, List.cons_append] at he
          injection he with e1 e2
          refine ⟨0, by rw [e1]; simp, by simp, Reach.here _, ?_⟩
          rw [List.drop_zero, lex_tok hp, show a + ((0 : Nat) : Int) + 1 + (k : Int) = a + 1 + k from by omega, hv, e1, e2]
          simp [Rs.pre]
        | cons u us =>
          simp only [List.cons_append, List.nil_append] at he
          injection he with e1 e2
          subst e2
          obtain ⟨m, h1, h2, h3, h4⟩ := ih _ _ _ _ _ (by rw [List.length_drop]; omega) hv
          rw [List.length_drop] at h2
          refine ⟨1 + k + m, by omega, by simp; omega, Reach.tok hp h3, ?_⟩
          rw [show 1 + k + m = (k + m) + 1 from by omega, List.drop_succ_cons, ← List.drop_drop]
          rw [← h4]; congr 1; omega
      | bad e => rw [lex_bad hp] at h; cases h
theorem reach_err : ∀ (n : Nat) (l : List UInt8) (a p e : Int), l.length ≤ n → lexL l a = .err p e → ∃ m : Nat, p = a + m ∧ m < l.length ∧ Reach l m ∧ lexL (l.drop m) (a + m) = .err p e := by
  intro n
  induction n with
  | zero =>
    intro l a p e hl h
    obtain rfl : l = [] := List.length_eq_zero_iff.1 (by omega)
    rw [lex_nil] at h; cases h
  | succ n ih =>
    intro l a p e hl h
    cases l with
    | nil => rw [lex_nil] at h; cases h
    | cons b r =>
      simp at hl
      have go : ∀ k : Nat, k ≤ r.length → lexL (r.drop k) (a + 1 + k) = .err p e → (∀ m, Reach (r.drop k) m → Reach (b :: r) (1 + k + m)) → ∃ m : Nat, p = a + m ∧ m < (b :: r).length ∧ Reach (b :: r) m ∧ lexL ((b :: r).drop m) (a + m) = .err p e := fun k hk h hr => by
        obtain ⟨m, h1, h2, h3, h4⟩ := ih _ _ _ _ (by rw [List.length_drop]; omega) h
        rw [List.length_drop] at h2
        refine ⟨1 + k + m, by omega, by simp; omega, hr m h3, ?_⟩
        rw [show 1 + k + m = (k + m) + 1 from by omega, List.drop_succ_cons, ← List.drop_drop]
        rw [← h4]; congr 1; omega
      cases hp : piece b r with
      | skip k => rw [lex_skip hp] at h; exact go k (skip_le hp) h (fun m hm => Reach.skip hp hm)
      | tok kd w v k => rw [lex_tok hp] at h; exact go k (piece_le hp) (pre_err h) (fun m hm => Reach.tok hp hm)
      | bad e' =>
        have h' := h
        rw [lex_bad hp] at h
        injection h with h1 h2
        exact ⟨0, by omega, by simp, Reach.here _, by rw [List.drop_zero, show a + ((0 : Nat) : Int) = a from by omega]; exact h'⟩
theorem soft_nil : soft [] := fun c h => by simp at h
theorem swallow_nil : swallow [] := fun a => by simp [run_nil]
theorem pre_inj {us vs ws : List Tk} {x : Rs} (h : Rs.ok (us ++ vs) = Rs.pre ws x) (hx : x = .ok vs) : ws = us := by
  subst hx
  simp only [Rs.pre, Rs.ok.injEq] at h
  exact (List.append_cancel_right h).symm
/-- A text that is cut ahead of a token. -/
theorem cut_tok {l : List UInt8} {us : List Tk} {t : Tk} {vs : List Tk} (h : lexL l 0 = .ok (us ++ t :: vs)) :
    ∃ m : Nat, t.a = m ∧ m < l.length ∧ lexL (l.take m) 0 = .ok us ∧
      ∀ c : UInt8, c.toNat = 32 ∨ c.toNat = 9 → lexL (l.take m ++ c :: l.drop m) 0 = .ok (us ++ (t :: vs).map (mv 1)) := by
  obtain ⟨m, h1, h2, h3, h4⟩ := reach_tok _ _ _ _ _ _ (Nat.le_refl _) h
  rw [Int.zero_add] at h1 h4
  obtain ⟨ws, hw, hx⟩ := h3.ext 0
  rw [Int.zero_add, h4] at hw
  have e := pre_inj (h.symm.trans hw) rfl
  subst e
  refine ⟨m, h1, h2, ?_, fun c hc => ?_⟩
  · have := hx [] soft_nil (.inl swallow_nil)
    rw [List.append_nil, lex_nil] at this
    rw [this]; simp [Rs.pre]
  · have hbl : blB c = true := by unfold blB; simp; exact hc
    have hskip : ∀ y (a : Int), lexL (c :: y) a = lexL y (a + 1) := fun y a => by
      rw [bl_skip hbl]; simp
    have hsoft : soft (c :: l.drop m) := fun d hd => by
      simp at hd; subst hd; rcases hc with hc | hc
      · exact .inr (.inl hc)
      · exact .inr (.inr hc)
    have hsw : swallow (c :: l.drop m) ∨ ∃ d, (l.drop m).head? = some d ∧ d.toNat ≠ 10 := by
      cases hd : l.drop m with
      | nil => rw [hd, lex_nil] at h4; injection h4 with h4; cases h4
      | cons d y =>
        by_cases h10 : d.toNat = 10
        · left
          intro a
          have hrun : run nlB (c :: d :: y) = 1 := by
            rw [run_cons, if_pos (by unfold nlB; simp; omega), run_cons, if_neg (by unfold nlB; simp [h10])]
          rw [hrun, List.drop_succ_cons, List.drop_zero, hskip]
          rfl
        · exact .inr ⟨d, rfl, h10⟩
    have := hx _ hsoft hsw
    rw [this, hskip, Int.zero_add, lex_mv 1 _ _ _ (Nat.le_refl _), h4]
    rfl
theorem lex_bad_code : ∀ (n : Nat) (l : List UInt8) (a : Int), l.length ≤ n → ∀ p e, lexL l a = .err p e → e ≠ 30 := by
  have hb : ∀ {b : UInt8} {r : List UInt8} {e : Int}, piece b r = .bad e → e ≠ 30 := by
    intro b r e hp h
    subst h
    unfold piece at hp
    split at hp
    · cases hp
    split at hp
    · cases hp
    split at hp
    · cases hp
    split at hp
    · split at hp <;> cases hp
    split at hp
    · unfold numP at hp; split at hp <;> cases hp
    split at hp
    · unfold numP at hp; split at hp <;> cases hp
    split at hp
    · cases hp
    split at hp <;> cases hp
  intro n
  induction n with
  | zero =>
    intro l a hl p e h
    obtain rfl : l = [] := List.length_eq_zero_iff.1 (by omega)
    rw [lex_nil] at h; cases h
  | succ n ih =>
    intro l a hl p e h
    cases l with
    | nil => rw [lex_nil] at h; cases h
    | cons b r =>
      simp at hl
      cases hp : piece b r with
      | skip k => rw [lex_skip hp] at h; exact ih _ _ (by rw [List.length_drop]; omega) _ _ h
      | tok kd w v k => rw [lex_tok hp] at h; exact ih _ _ (by rw [List.length_drop]; omega) _ _ (pre_err h)
      | bad e' => rw [lex_bad hp] at h; injection h with h1 h2; subst h2; exact hb hp
/-- Where a fault is told. -/
theorem cut_err {l : List UInt8} {p e : Int} (h : lexL l 0 = .err p e) : e ≠ 30 ∧ ∃ m : Nat, p = m ∧ m < l.length ∧ (∃ us, lexL (l.take m) 0 = .ok us) ∧ ∃ q, lexL (l.drop m) 0 = .err q e := by
  refine ⟨lex_bad_code _ _ _ (Nat.le_refl _) _ _ h, ?_⟩
  obtain ⟨m, h1, h2, h3, h4⟩ := reach_err _ _ _ _ _ (Nat.le_refl _) h
  obtain ⟨ws, _, hx⟩ := h3.ext 0
  refine ⟨m, by omega, h2, ⟨ws, ?_⟩, ?_⟩
  · have := hx [] soft_nil (.inl swallow_nil)
    rw [List.append_nil, lex_nil] at this
    rw [this]; simp [Rs.pre]
  · rw [lex_from] at h4
    cases hl : lexL (l.drop m) 0 with
    | ok ts => rw [hl] at h4; cases h4
    | err q e' => rw [hl] at h4; injection h4 with _ h5; subst h5; exact ⟨q, rfl⟩
/-- A text with something behind it. -/
theorem lex_app_soft {l : List UInt8} {ts : List Tk} (h : lexL l 0 = .ok ts) (x : List UInt8) (hx : soft x) (hs : swallow x) : lexL (l ++ x) 0 = Rs.pre ts (lexL x (l.length : Nat)) := by
  have hr := reach_full _ _ _ _ (Nat.le_refl _) h
  obtain ⟨ws, hw, he⟩ := hr.ext 0
  rw [List.drop_length, lex_nil, h] at hw
  simp only [Rs.pre, List.append_nil, Rs.ok.injEq] at hw
  subst hw
  have := he x hx (.inl hs)
  rwa [List.take_length, Int.zero_add] at this
/-- Two texts with a line's end between. -/
theorem lex_join {a b : List UInt8} {x y : List Tk} (ha : lexL a 0 = .ok x) (hb : lexL b 0 = .ok y) : lexL (a ++ 10 :: b) 0 = .ok (x ++ ⟨4, a.length, [], 0⟩ :: y.map (mv (a.length + 1))) := by
  have hp : piece 10 b = .tok 4 [] 0 0 := by unfold piece; rw [if_neg (by decide), if_neg (by decide), if_pos (by decide)]
  rw [lex_app_soft ha _ (fun c hc => by simp at hc; subst hc; exact .inl rfl) (fun a => by rw [run_cons, if_neg (by decide)]; simp), lex_tok hp, List.drop_zero, lex_from, hb]
  simp [Rs.mv, Rs.pre]
/-- A note at a text's end. -/
theorem lex_note {a n : List UInt8} {x : List Tk} (ha : lexL a 0 = .ok x) (hn : ∀ c ∈ n, c.toNat ≠ 10) : lexL (a ++ 32 :: 35 :: n) 0 = .ok x := by
  have hrun : run nlB n = n.length := run_full _ _ (fun c hc => by unfold nlB; simpa using hn c hc)
  have hnote : ∀ k : Int, lexL (35 :: n) k = .ok [] := fun k => by
    have hp : piece 35 n = .skip (run nlB n) := by unfold piece; rw [if_neg (by decide), if_pos (by decide)]
    rw [lex_skip hp, hrun, List.drop_length, lex_nil]
  have hall : ∀ k : Int, lexL (32 :: 35 :: n) k = .ok [] := fun k => by
    rw [bl_skip (by decide)]; simp only [List.drop_succ_cons, List.drop_zero]; exact hnote _
  have hr2 : run nlB (32 :: 35 :: n) = n.length + 2 := by rw [run_cons, if_pos (by decide), run_cons, if_pos (by decide), hrun]
  rw [lex_app_soft ha _ (fun c hc => by simp at hc; subst hc; exact .inr (.inl rfl)) (fun a => by rw [hall, hr2, List.drop_of_length_le (by simp), lex_nil]), hall]
  simp [Rs.pre]
/-- A token's text with a blank behind. -/
theorem lex_spelled {t : Tk} (h : Sp t) (r : List UInt8) (a : Int) : lexL (txt t ++ 32 :: r) a = Rs.pre [{ t with a := a }] (lexL r (a + (txt t).length + 1)) := by
  obtain ⟨b, s, hl, _, _, _, hp⟩ := h
  have h1 := piece_tok hp (32 :: r) (.inr (fun c hc => by simp at hc; subst hc; exact .inr (.inl rfl)))
  rw [List.take_length] at h1
  rw [hl, List.cons_append, lex_tok h1, List.drop_left, bl_skip (by decide)]
  simp only [List.drop_succ_cons, List.drop_zero, List.length_cons]
  congr 2
  omega
end Go.Proofs.YtphcjpomneejmaaDoor
