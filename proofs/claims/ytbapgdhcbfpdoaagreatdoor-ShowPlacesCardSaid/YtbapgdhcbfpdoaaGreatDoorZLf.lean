/- Layer 4, put together: LexY, ParNp, ParFu, ParLa, ParLb, ParLc, ParLd, ParLe, ParLf. -/
import Derived.Test.YtbapgdhcbfpdoaaGreatDoorZLd
import Derived.Test.YtbapgdhcbfpdoaaGreatDoorZM2
/- Laws of how a text is cut, over plain lists. -/
namespace Go.Proofs.YtbapgdhcbfpdoaaGreatDoor
open Go.RowKit

def mv (d : Int) (t : Tk) : Tk := { t with a := t.a + d }
def Rs.mv (d : Int) : Rs → Rs
  | .ok ts => .ok (ts.map (Go.Proofs.YtbapgdhcbfpdoaaGreatDoor.mv d))
  | .err a e => .err (a + d) e
theorem lex_mv (d : Int) : ∀ (n : Nat) (l : List UInt8) (a : Int), l.length ≤ n → lexL l (a + d) = (lexL l a).mv d := by
  intro n
  induction n with
  | zero =>
    intro l a hl
    obtain rfl : l = [] := List.length_eq_zero_iff.1 (by omega)
    rw [lex_nil, lex_nil]; rfl
  | succ n ih =>
    intro l a hl
    cases l with
    | nil => rw [lex_nil, lex_nil]; rfl
    | cons b r =>
      simp at hl
      cases hp : piece b r with
      | skip k =>
        rw [lex_skip hp, lex_skip hp, ← ih _ _ (by rw [List.length_drop]; omega)]
        congr 1; omega
      | tok kd w v k =>
        rw [lex_tok hp, lex_tok hp, show a + d + 1 + (k : Int) = a + 1 + k + d from by omega, ih _ _ (by rw [List.length_drop]; omega)]
        cases lexL (r.drop k) (a + 1 + k) <;> rfl
      | bad e => rw [lex_bad hp, lex_bad hp]; rfl
theorem lex_from (l : List UInt8) (a : Int) : lexL l a = (lexL l 0).mv a := by
  have := lex_mv a _ l 0 (Nat.le_refl _)
  rwa [Int.zero_add] at this
theorem reach_full : ∀ (n : Nat) (l : List UInt8) (a : Int) (ts : List Tk), l.length ≤ n → lexL l a = .ok ts → Reach l l.length := by
  intro n
  induction n with
  | zero =>
    intro l a ts hl _
    obtain rfl : l = [] := List.length_eq_zero_iff.1 (by omega)
    exact Reach.here _
  | succ n ih =>
    intro l a ts hl h
    cases l with
    | nil => exact Reach.here _
    | cons b r =>
      simp at hl
      cases hp : piece b r with
      | skip k =>
        rw [lex_skip hp] at h
        have hk := skip_le hp
        have h1 := Reach.skip hp (ih _ _ _ (by rw [List.length_drop]; omega) h)
        rw [List.length_drop] at h1
        rwa [show 1 + k + (r.length - k) = (b :: r).length from by simp; omega] at h1
      | tok kd w v k =>
        rw [lex_tok hp] at h
        obtain ⟨vs, hv, _⟩ := pre_ok h
        have hk := piece_le hp
        have h1 := Reach.tok hp (ih _ _ _ (by rw [List.length_drop]; omega) hv)
        rw [List.length_drop] at h1
        rwa [show 1 + k + (r.length - k) = (b :: r).length from by simp; omega] at h1
      | bad e => rw [lex_bad hp] at h; cases h
theorem reach_tok : ∀ (n : Nat) (l : List UInt8) (a : Int) (us : List Tk) (t : Tk) (vs : List Tk), l.length ≤ n → lexL l a = .ok (us ++ t :: vs) → ∃ m : Nat, t.a = a + m ∧ m < l.length ∧ Reach l m ∧ lexL (l.drop m) (a + m) = .ok (t :: vs) := by
  intro n
  induction n with
  | zero =>
    intro l a us t vs hl h
    obtain rfl : l = [] := List.length_eq_zero_iff.1 (by omega)
    rw [lex_nil] at h; injection h with h; simp at h
  | succ n ih =>
    intro l a us t vs hl h
    cases l with
    | nil => rw [lex_nil] at h; injection h with h; simp at h
    | cons b r =>
      simp at hl
      cases hp : piece b r with
      | skip k =>
        rw [lex_skip hp] at h
        have hk := skip_le hp
        obtain ⟨m, h1, h2, h3, h4⟩ := ih _ _ _ _ _ (by rw [List.length_drop]; omega) h
        rw [List.length_drop] at h2
        refine ⟨1 + k + m, by omega, by simp; omega, Reach.skip hp h3, ?_⟩
        rw [show 1 + k + m = (k + m) + 1 from by omega, List.drop_succ_cons, ← List.drop_drop]
        rw [← h4]; congr 1; omega
      | tok kd w v k =>
        rw [lex_tok hp] at h
        have hk := piece_le hp
        obtain ⟨ws, hv, he⟩ := pre_ok h
        cases us with
        | nil =>
          simp only [List.nil_append, List.cons_append] at he
          injection he with e1 e2
          refine ⟨0, by rw [e1]; simp, by simp, Reach.here _, ?_⟩
          rw [List.drop_zero, lex_tok hp, show a + ((0 : Nat) : Int) + 1 + (k : Int) = a + 1 + k from by omega, hv, e1, e2]
          simp [Rs.pre]
        | cons u us =>
          simp only [List.cons_append, List.nil_append] at he
          injection he with e1 e2
          subst e2
          obtain ⟨m, h1, h2, h3, h4⟩ := ih _ _ _ _ _ (by rw [List.length_drop]; omega) hv
          rw [List.length_drop] at h2
          refine ⟨1 + k + m, by omega, by simp; omega, Reach.tok hp h3, ?_⟩
          rw [show 1 + k + m = (k + m) + 1 from by omega, List.drop_succ_cons, ← List.drop_drop]
          rw [← h4]; congr 1; omega
      | bad e => rw [lex_bad hp] at h; cases h
theorem reach_err : ∀ (n : Nat) (l : List UInt8) (a p e : Int), l.length ≤ n → lexL l a = .err p e → ∃ m : Nat, p = a + m ∧ m < l.length ∧ Reach l m ∧ lexL (l.drop m) (a + m) = .err p e := by
  intro n
  induction n with
  | zero =>
    intro l a p e hl h
    obtain rfl : l = [] := List.length_eq_zero_iff.1 (by omega)
    rw [lex_nil] at h; cases h
  | succ n ih =>
    intro l a p e hl h
    cases l with
    | nil => rw [lex_nil] at h; cases h
    | cons b r =>
      simp at hl
      have go : ∀ k : Nat, k ≤ r.length → lexL (r.drop k) (a + 1 + k) = .err p e → (∀ m, Reach (r.drop k) m → Reach (b :: r) (1 + k + m)) → ∃ m : Nat, p = a + m ∧ m < (b :: r).length ∧ Reach (b :: r) m ∧ lexL ((b :: r).drop m) (a + m) = .err p e := fun k hk h hr => by
        obtain ⟨m, h1, h2, h3, h4⟩ := ih _ _ _ _ (by rw [List.length_drop]; omega) h
        rw [List.length_drop] at h2
        refine ⟨1 + k + m, by omega, by simp; omega, hr m h3, ?_⟩
        rw [show 1 + k + m = (k + m) + 1 from by omega, List.drop_succ_cons, ← List.drop_drop]
        rw [← h4]; congr 1; omega
      cases hp : piece b r with
      | skip k => rw [lex_skip hp] at h; exact go k (skip_le hp) h (fun m hm => Reach.skip hp hm)
      | tok kd w v k => rw [lex_tok hp] at h; exact go k (piece_le hp) (pre_err h) (fun m hm => Reach.tok hp hm)
      | bad e' =>
        have h' := h
        rw [lex_bad hp] at h
        injection h with h1 h2
        exact ⟨0, by omega, by simp, Reach.here _, by rw [List.drop_zero, show a + ((0 : Nat) : Int) = a from by omega]; exact h'⟩
theorem soft_nil : soft [] := fun c h => by simp at h
theorem swallow_nil : swallow [] := fun a => by simp [run_nil]
theorem pre_inj {us vs ws : List Tk} {x : Rs} (h : Rs.ok (us ++ vs) = Rs.pre ws x) (hx : x = .ok vs) : ws = us := by
  subst hx
  simp only [Rs.pre, Rs.ok.injEq] at h
  exact (List.append_cancel_right h).symm
/-- A text that is cut ahead of a token. -/
theorem cut_tok {l : List UInt8} {us : List Tk} {t : Tk} {vs : List Tk} (h : lexL l 0 = .ok (us ++ t :: vs)) :
    ∃ m : Nat, t.a = m ∧ m < l.length ∧ lexL (l.take m) 0 = .ok us ∧
      ∀ c : UInt8, c.toNat = 32 ∨ c.toNat = 9 → lexL (l.take m ++ c :: l.drop m) 0 = .ok (us ++ (t :: vs).map (mv 1)) := by
  obtain ⟨m, h1, h2, h3, h4⟩ := reach_tok _ _ _ _ _ _ (Nat.le_refl _) h
  rw [Int.zero_add] at h1 h4
  obtain ⟨ws, hw, hx⟩ := h3.ext 0
  rw [Int.zero_add, h4] at hw
  have e := pre_inj (h.symm.trans hw) rfl
  subst e
  refine ⟨m, h1, h2, ?_, fun c hc => ?_⟩
  · have := hx [] soft_nil (.inl swallow_nil)
    rw [List.append_nil, lex_nil] at this
    rw [this]; simp [Rs.pre]
  · have hbl : blB c = true := by unfold blB; simp; exact hc
    have hskip : ∀ y (a : Int), lexL (c :: y) a = lexL y (a + 1) := fun y a => by
      rw [bl_skip hbl]; simp
    have hsoft : soft (c :: l.drop m) := fun d hd => by
      simp at hd; subst hd; rcases hc with hc | hc
      · exact .inr (.inl hc)
      · exact .inr (.inr hc)
    have hsw : swallow (c :: l.drop m) ∨ ∃ d, (l.drop m).head? = some d ∧ d.toNat ≠ 10 := by
      cases hd : l.drop m with
      | nil => rw [hd, lex_nil] at h4; injection h4 with h4; cases h4
      | cons d y =>
        by_cases h10 : d.toNat = 10
        · left
          intro a
          have hrun : run nlB (c :: d :: y) = 1 := by
            rw [run_cons, if_pos (by unfold nlB; simp; omega), run_cons, if_neg (by unfold nlB; simp [h10])]
          rw [hrun, List.drop_succ_cons, List.drop_zero, hskip]
          rfl
        · exact .inr ⟨d, rfl, h10⟩
    have := hx _ hsoft hsw
    rw [this, hskip, Int.zero_add, lex_mv 1 _ _ _ (Nat.le_refl _), h4]
    rfl
theorem lex_bad_code : ∀ (n : Nat) (l : List UInt8) (a : Int), l.length ≤ n → ∀ p e, lexL l a = .err p e → e ≠ 30 := by
  have hb : ∀ {b : UInt8} {r : List UInt8} {e : Int}, piece b r = .bad e → e ≠ 30 := by
    intro b r e hp h
    subst h
    unfold piece at hp
    split at hp
    · cases hp
    split at hp
    · cases hp
    split at hp
    · cases hp
    split at hp
    · split at hp <;> cases hp
    split at hp
    · unfold numP at hp; split at hp <;> cases hp
    split at hp
    · unfold numP at hp; split at hp <;> cases hp
    split at hp
    · cases hp
    split at hp <;> cases hp
  intro n
  induction n with
  | zero =>
    intro l a hl p e h
    obtain rfl : l = [] := List.length_eq_zero_iff.1 (by omega)
    rw [lex_nil] at h; cases h
  | succ n ih =>
    intro l a hl p e h
    cases l with
    | nil => rw [lex_nil] at h; cases h
    | cons b r =>
      simp at hl
      cases hp : piece b r with
      | skip k => rw [lex_skip hp] at h; exact ih _ _ (by rw [List.length_drop]; omega) _ _ h
      | tok kd w v k => rw [lex_tok hp] at h; exact ih _ _ (by rw [List.length_drop]; omega) _ _ (pre_err h)
      | bad e' => rw [lex_bad hp] at h; injection h with h1 h2; subst h2; exact hb hp
/-- Where a fault is told. -/
theorem cut_err {l : List UInt8} {p e : Int} (h : lexL l 0 = .err p e) : e ≠ 30 ∧ ∃ m : Nat, p = m ∧ m < l.length ∧ (∃ us, lexL (l.take m) 0 = .ok us) ∧ ∃ q, lexL (l.drop m) 0 = .err q e := by
  refine ⟨lex_bad_code _ _ _ (Nat.le_refl _) _ _ h, ?_⟩
  obtain ⟨m, h1, h2, h3, h4⟩ := reach_err _ _ _ _ _ (Nat.le_refl _) h
  obtain ⟨ws, _, hx⟩ := h3.ext 0
  refine ⟨m, by omega, h2, ⟨ws, ?_⟩, ?_⟩
  · have := hx [] soft_nil (.inl swallow_nil)
    rw [List.append_nil, lex_nil] at this
    rw [this]; simp [Rs.pre]
  · rw [lex_from] at h4
    cases hl : lexL (l.drop m) 0 with
    | ok ts => rw [hl] at h4; cases h4
    | err q e' => rw [hl] at h4; injection h4 with _ h5; subst h5; exact ⟨q, rfl⟩
/-- A text with something behind it. -/
theorem lex_app_soft {l : List UInt8} {ts : List Tk} (h : lexL l 0 = .ok ts) (x : List UInt8) (hx : soft x) (hs : swallow x) : lexL (l ++ x) 0 = Rs.pre ts (lexL x (l.length : Nat)) := by
  have hr := reach_full _ _ _ _ (Nat.le_refl _) h
  obtain ⟨ws, hw, he⟩ := hr.ext 0
  rw [List.drop_length, lex_nil, h] at hw
  simp only [Rs.pre, List.append_nil, Rs.ok.injEq] at hw
  subst hw
  have := he x hx (.inl hs)
  rwa [List.take_length, Int.zero_add] at this
/-- Two texts with a line's end between. -/
theorem lex_join {a b : List UInt8} {x y : List Tk} (ha : lexL a 0 = .ok x) (hb : lexL b 0 = .ok y) : lexL (a ++ 10 :: b) 0 = .ok (x ++ ⟨4, a.length, [], 0⟩ :: y.map (mv (a.length + 1))) := by
  have hp : piece 10 b = .tok 4 [] 0 0 := by unfold piece; rw [if_neg (by decide), if_neg (by decide), if_pos (by decide)]
  rw [lex_app_soft ha _ (fun c hc => by simp at hc; subst hc; exact .inl rfl) (fun a => by rw [run_cons, if_neg (by decide)]; simp), lex_tok hp, List.drop_zero, lex_from, hb]
  simp [Rs.mv, Rs.pre]
/-- A note at a text's end. -/
theorem lex_note {a n : List UInt8} {x : List Tk} (ha : lexL a 0 = .ok x) (hn : ∀ c ∈ n, c.toNat ≠ 10) : lexL (a ++ 32 :: 35 :: n) 0 = .ok x := by
  have hrun : run nlB n = n.length := run_full _ _ (fun c hc => by unfold nlB; simpa using hn c hc)
  have hnote : ∀ k : Int, lexL (35 :: n) k = .ok [] := fun k => by
    have hp : piece 35 n = .skip (run nlB n) := by unfold piece; rw [if_neg (by decide), if_pos (by decide)]
    rw [lex_skip hp, hrun, List.drop_length, lex_nil]
  have hall : ∀ k : Int, lexL (32 :: 35 :: n) k = .ok [] := fun k => by
    rw [bl_skip (by decide)]; simp only [List.drop_succ_cons, List.drop_zero]; exact hnote _
  have hr2 : run nlB (32 :: 35 :: n) = n.length + 2 := by rw [run_cons, if_pos (by decide), run_cons, if_pos (by decide), hrun]
  rw [lex_app_soft ha _ (fun c hc => by simp at hc; subst hc; exact .inr (.inl rfl)) (fun a => by rw [hall, hr2, List.drop_of_length_le (by simp), lex_nil]), hall]
  simp [Rs.pre]
/-- A token's text with a blank behind. -/
theorem lex_spelled {t : Tk} (h : Sp t) (r : List UInt8) (a : Int) : lexL (txt t ++ 32 :: r) a = Rs.pre [{ t with a := a }] (lexL r (a + (txt t).length + 1)) := by
  obtain ⟨b, s, hl, _, _, _, hp⟩ := h
  have h1 := piece_tok hp (32 :: r) (.inr (fun c hc => by simp at hc; subst hc; exact .inr (.inl rfl)))
  rw [List.take_length] at h1
  rw [hl, List.cons_append, lex_tok h1, List.drop_left, bl_skip (by decide)]
  simp only [List.drop_succ_cons, List.drop_zero, List.length_cons]
  congr 2
  omega
end Go.Proofs.YtbapgdhcbfpdoaaGreatDoor
/- Tokens and lines: what a text's tokens are, and one line more. Pure. -/
namespace Go.Proofs.YtbapgdhcbfpdoaaGreatDoor
open Go.RowKit
def Gd (t : Tk) : Prop := t.w.length ≤ 1000 ∧ (t.k = 4 → t.w = [])
theorem lex_gd : ∀ (n : Nat) (l : List UInt8) (a : Int), l.length ≤ n → ∀ ts, lexL l a = .ok ts → (∀ t ∈ ts, Gd t) ∧ ts.length ≤ l.length := by
  intro n
  induction n with
  | zero =>
    intro l a hl ts h
    obtain rfl : l = [] := List.length_eq_zero_iff.1 (by omega)
    rw [lex_nil] at h; injection h with h; subst h
    exact ⟨fun t ht => by simp at ht, Nat.le_refl _⟩
  | succ n ih =>
    intro l a hl ts h
    cases l with
    | nil => rw [lex_nil] at h; injection h with h; subst h; exact ⟨fun t ht => by simp at ht, Nat.le_refl _⟩
    | cons b r =>
      simp at hl
      cases hp : piece b r with
      | skip k =>
        rw [lex_skip hp] at h
        have h1 := ih _ _ (by rw [List.length_drop]; omega) _ h
        rw [List.length_drop] at h1
        exact ⟨h1.1, by simp; omega⟩
      | tok kd w v k =>
        rw [lex_tok hp] at h
        obtain ⟨vs, hv, rfl⟩ := pre_ok h
        have h1 := ih _ _ (by rw [List.length_drop]; omega) _ hv
        rw [List.length_drop] at h1
        refine ⟨fun t ht => ?_, by simp; omega⟩
        simp only [List.cons_append, List.nil_append, List.mem_cons] at ht
        rcases ht with rfl | ht
        · rcases piece_kind hp with ⟨_, h2, _⟩ | ⟨_, h2, _⟩ | ⟨h2, h3, h4, _⟩
          · subst h2; exact ⟨by simp, fun _ => rfl⟩
          · subst h2; exact ⟨by simp, fun _ => rfl⟩
          · refine ⟨?_, fun e => by simp only at e; omega⟩
            subst h3
            simp
            omega
        · exact h1.1 t ht
      | bad e => rw [lex_bad hp] at h; cases h
theorem lex_nz : ∀ (n : Nat) (l : List UInt8) (a : Int), l.length ≤ n → ∀ p e, lexL l a = .err p e → e ≠ 0 := by
  have hb : ∀ {b : UInt8} {r : List UInt8} {e : Int}, piece b r = .bad e → e ≠ 0 := by
    intro b r e hp h
    subst h
    unfold piece at hp
    split at hp
    · cases hp
    split at hp
    · cases hp
    split at hp
    · cases hp
    split at hp
    · split at hp <;> cases hp
    split at hp
    · unfold numP at hp; split at hp <;> cases hp
    split at hp
    · unfold numP at hp; split at hp <;> cases hp
    split at hp
    · cases hp
    split at hp <;> cases hp
  intro n
  induction n with
  | zero =>
    intro l a hl p e h
    obtain rfl : l = [] := List.length_eq_zero_iff.1 (by omega)
    rw [lex_nil] at h; cases h
  | succ n ih =>
    intro l a hl p e h
    cases l with
    | nil => rw [lex_nil] at h; cases h
    | cons b r =>
      simp at hl
      cases hp : piece b r with
      | skip k => rw [lex_skip hp] at h; exact ih _ _ (by rw [List.length_drop]; omega) _ _ h
      | tok kd w v k => rw [lex_tok hp] at h; exact ih _ _ (by rw [List.length_drop]; omega) _ _ (pre_err h)
      | bad e' => rw [lex_bad hp] at h; injection h with h1 h2; subst h2; exact hb hp
theorem lexR_nz {l : List UInt8} {p e : Int} (h : lexR l = .err p e) : e ≠ 0 := by
  unfold lexR at h
  split at h
  · injection h with h1 h2; omega
  · exact lex_nz _ _ _ (Nat.le_refl _) _ _ h
theorem lexR_gd {l : List UInt8} {ts : List Tk} (h : lexR l = .ok ts) : (∀ t ∈ ts, Gd t) ∧ ts.length ≤ 65536 ∧ l.length ≤ 65536 := by
  unfold lexR at h
  split at h
  · cases h
  · have h1 := lex_gd _ _ _ (Nat.le_refl _) _ h
    exact ⟨h1.1, by omega, by omega⟩
theorem lines_nil (e : Int) (p : Pg) : linesR e p [] = if compl p then .ok p else .err e 42 := by rw [linesR]
theorem lines_ok {e : Int} {p q : Pg} {f : Tk} {r : List Tk} (h : addR p ((f :: r).take (cutAt (f :: r))) = .ok q) : linesR e p (f :: r) = linesR e q ((f :: r).drop (cutAt (f :: r))) := by rw [linesR, h]
theorem lines_err {e : Int} {p : Pg} {f : Tk} {r : List Tk} {a c : Int} (h : addR p ((f :: r).take (cutAt (f :: r))) = .err a c) : linesR e p (f :: r) = .err a c := by rw [linesR, h]
theorem ends_take {us : List Tk} (hk : us.findIdx isEnd < us.length) (hg : ∀ t ∈ us, Gd t) : Ends (us.take (us.findIdx isEnd + 1)) := by
  rw [← List.take_append_getElem hk]
  have h1 : isEnd (us[us.findIdx isEnd]) = true := List.findIdx_getElem (w := hk)
  have h2 : (us[us.findIdx isEnd]).k = 4 := of_decide_eq_true h1
  exact Ends.snoc _ _ h2 ((hg _ (List.getElem_mem hk)).2 h2)
theorem find_lt {us : List Tk} {e : Tk} (he : e ∈ us) (h : e.k = 4) : us.findIdx isEnd < us.length := List.findIdx_lt_length_of_exists ⟨e, he, by unfold isEnd; simpa using h⟩
def Pg.cnt (p : Pg) : Nat := p.ins.length + p.lns.length
theorem add_cnt {p q : Pg} {ts : List Tk} (h : addR p ts = .ok q) (hp : p.cnt ≤ 64) : q.cnt ≤ 64 := by
  have hln : ∀ nm pl us, addLnR p nm pl us = .ok q → q.cnt = p.cnt + 1 := by
    intro nm pl us h1
    unfold addLnR at h1
    split at h1
    · cases h1
    · injection h1 with h1; subst h1; simp [Pg.cnt]; omega
  have hin : ∀ f r, addInR p f r = .ok q → q.cnt ≤ p.cnt + 1 := by
    intro f r h1
    unfold addInR at h1
    split at h1
    · cases h1
    · split at h1
      · injection h1 with h1; subst h1; omega
      · split at h1
        · cases h1
        · split at h1
          · cases h1
          · split at h1
            · cases h1
            · injection h1 with h1; subst h1; simp [Pg.cnt]; omega
  unfold addR at h
  split at h
  · injection h with h; subst h; exact hp
  · split at h
    · injection h with h; subst h; exact hp
    split at h
    · cases h
    have h6 : p.cnt < 64 := by unfold Pg.cnt at *; omega
    split at h
    · cases h
    split at h
    · cases h
    split at h
    · have := hin _ _ h; omega
    split at h
    · have := hln _ _ _ h; omega
    split at h
    · cases h
    split at h
    · cases h
    have := hln _ _ _ h; omega
end Go.Proofs.YtbapgdhcbfpdoaaGreatDoor
/- How texts are read, with fuel, so that it can be worked out: over plain lists. -/
namespace Go.Proofs.YtbapgdhcbfpdoaaGreatDoor
open Go.RowKit
def lexF : Nat → List UInt8 → Int → Rs
  | 0, _, _ => .ok []
  | _ + 1, [], _ => .ok []
  | n + 1, b :: r, a => match piece b r with
    | .skip k => lexF n (r.drop k) (a + 1 + k)
    | .tok kd w v k => Rs.pre [⟨kd, a, w, v⟩] (lexF n (r.drop k) (a + 1 + k))
    | .bad e => .err a e
theorem lexF_eq : ∀ (n : Nat) (l : List UInt8) (a : Int), l.length ≤ n → lexF n l a = lexL l a
  | 0, l, a, h => by obtain rfl : l = [] := List.length_eq_zero_iff.1 (by omega); rw [lex_nil]; rfl
  | n + 1, [], a, _ => by rw [lex_nil]; rfl
  | n + 1, b :: r, a, h => by
    simp at h
    have e : lexF (n + 1) (b :: r) a = match piece b r with
      | .skip k => lexF n (r.drop k) (a + 1 + k)
      | .tok kd w v k => Rs.pre [⟨kd, a, w, v⟩] (lexF n (r.drop k) (a + 1 + k))
      | .bad e => .err a e := rfl
    rw [e]
    cases hp : piece b r with
    | skip k => rw [lex_skip hp]; exact lexF_eq n _ _ (by rw [List.length_drop]; omega)
    | tok kd w v k => rw [lex_tok hp]; simp only; rw [lexF_eq n _ _ (by rw [List.length_drop]; omega)]
    | bad e => rw [lex_bad hp]
def mrunF : Nat → List Tk → Bool → List It → List (Option It) → Er
  | 0, _, _, l, _ => .ok l
  | _ + 1, [], _, l, _ => .ok l
  | n + 1, t :: r, b, l, s =>
    if vb t.w then
      (if (phR t.w b (mk r).1).2 = 0 then .err t.a 43 else mrunF n (mk r).2 false l (some ⟨(phR t.w b (mk r).1).1, t.a, (phR t.w b (mk r).1).2, [], []⟩ :: s))
    else if b = false then
      (if t.k = 2 then mrunF n (pastNums r) true (l ++ [⟨1, t.a, 0, [], t.n :: numsOf r⟩]) s
      else if nameB t.w then mrunF n r true (l ++ [⟨2, t.a, 0, t.w, []⟩]) s
      else if t.w = [40] then (if opens s = 32 then .err t.a 44 else mrunF n r false l (none :: s))
      else if t.k = 1 then .err t.a 41 else .err t.a 42)
    else if t.k = 4 then (if 0 < opens s then .err t.a 42 else .ok (settleL l s).1)
    else if t.w = [41] ∧ 0 < opens s then mrunF n r true (settleL l s).1 (settleL l s).2
    else .err t.a 46
theorem mrunF_eq : ∀ (n : Nat) (ts : List Tk) (b : Bool) (l : List It) (s : List (Option It)), ts.length ≤ n → mrunF n ts b l s = mrun ts b l s
  | 0, ts, b, l, s, h => by obtain rfl : ts = [] := List.length_eq_zero_iff.1 (by omega); rw [mrun]; rfl
  | n + 1, [], b, l, s, _ => by rw [mrun]; rfl
  | n + 1, t :: r, b, l, s, h => by
    simp at h
    have h1 := mk_len r
    have h2 := past_len r
    rw [mrun_cons, mrunF, mrunF_eq n _ _ _ _ (by omega), mrunF_eq n _ _ _ _ (by omega), mrunF_eq n _ _ _ _ (by omega), mrunF_eq n _ _ _ _ (by omega), mrunF_eq n _ _ _ _ (by omega)]
def exprF (ts : List Tk) : Er := mrunF ts.length ts false [] []
theorem exprF_eq (ts : List Tk) : exprF ts = exprR ts := mrunF_eq _ _ _ _ _ (Nat.le_refl _)
def addLnF (p : Pg) (nm : List UInt8) (pl : Int) (ts : List Tk) : Pr := match exprF ts with
  | .err a e => .err a e
  | .ok its => .ok ⟨p.ins, p.lns ++ [⟨nm, pl, its⟩]⟩
theorem addLnF_eq (p : Pg) (nm : List UInt8) (pl : Int) (ts : List Tk) : addLnF p nm pl ts = addLnR p nm pl ts := by unfold addLnF addLnR; rw [exprF_eq]; cases exprR ts <;> rfl
def addF (p : Pg) (ts : List Tk) : Pr := match ts with
  | [] => .ok p
  | f :: r =>
    if f.k = 4 then .ok p
    else if p.ins.length + p.lns.length = 64 then .err f.a 45
    else if 256 < r.length then .err ((f :: r).getD 256 default).a 45
    else if compl p then .err f.a 40
    else if f.w = [105, 110] then addInR p f r
    else if f.w = [111, 117, 116] then addLnF p [] f.a r
    else if nameB f.w = false then .err f.a 40
    else if (r.getD 0 default).w ≠ [58] then .err (r.getD 0 default).a 42
    else addLnF p f.w f.a (r.drop 1)
theorem addF_eq (p : Pg) (ts : List Tk) : addF p ts = addR p ts := by
  cases ts with
  | nil => rfl
  | cons f r => unfold addF addR; simp only [addLnF_eq]
def linesF : Nat → Int → Pg → List Tk → Pr
  | 0, e, p, _ => if compl p then .ok p else .err e 42
  | _ + 1, e, p, [] => if compl p then .ok p else .err e 42
  | n + 1, e, p, t :: r => match addF p ((t :: r).take (cutAt (t :: r))) with
    | .err a c => .err a c
    | .ok q => linesF n e q ((t :: r).drop (cutAt (t :: r)))
theorem linesF_eq : ∀ (n : Nat) (e : Int) (p : Pg) (ts : List Tk), ts.length ≤ n → linesF n e p ts = linesR e p ts
  | 0, e, p, ts, h => by obtain rfl : ts = [] := List.length_eq_zero_iff.1 (by omega); rw [lines_nil]; rfl
  | n + 1, e, p, [], _ => by rw [lines_nil]; rfl
  | n + 1, e, p, t :: r, h => by
    simp at h
    rw [linesF, addF_eq]
    cases hx : addR p ((t :: r).take (cutAt (t :: r))) with
    | err a c => rw [lines_err hx]
    | ok q => rw [lines_ok hx]; exact linesF_eq n _ _ _ (by simp [cutAt]; omega)
def parseF (l : List UInt8) : Pr := match lexF l.length l 0 with
  | .err a e => .err a e
  | .ok ts => linesF (ts.length + 1) l.length ⟨[], []⟩ (ts ++ [⟨4, l.length, [], 0⟩])
theorem parseF_eq {l : List UInt8} (h : l.length ≤ 65536) : parseF l = parseR l := by
  unfold parseF parseR lexR
  rw [if_neg (by omega), lexF_eq _ _ _ (Nat.le_refl _)]
  cases lexL l 0 with
  | err a e => rfl
  | ok ts => exact linesF_eq _ _ _ _ (by simp)
deriving instance DecidableEq for Pr
/-- The document's examples. -/
def bytesOf (s : List Nat) : List UInt8 := s.map UInt8.ofNat
end Go.Proofs.YtbapgdhcbfpdoaaGreatDoor
/- How a text with something behind it is cut: over plain lists. -/
namespace Go.Proofs.YtbapgdhcbfpdoaaGreatDoor
open Go.RowKit
theorem run_app {f : UInt8 → Bool} {x : List UInt8} (h : headNot f x) (r : List UInt8) : run f (r ++ x) = run f r := by
  induction r with
  | nil =>
    rw [List.nil_append, run_nil]
    cases x with
    | nil => rfl
    | cons c x => rw [run_cons, h c rfl]; rfl
  | cons c r ih => rw [List.cons_append, run_cons, run_cons, ih]
theorem take_app {f : UInt8 → Bool} (r x : List UInt8) : (r ++ x).take (run f r) = r.take (run f r) := by
  rw [List.take_append_of_le_length (run_le f r)]
/-- What stands behind, and ends each piece. -/
def hard (x : List UInt8) : Prop := headNot digB x ∧ headNot alnB x ∧ x.head? ≠ some 61
theorem head_app {r x : List UInt8} (h : x.head? ≠ some 61) : (r ++ x).head? = some 61 ↔ r.head? = some 61 := by
  cases r with
  | nil => simp [h]
  | cons c r => simp
theorem piece_app {b : UInt8} {x : List UInt8} (hx : hard x) (r : List UInt8) (hn : b.toNat ≠ 35 ∨ headNot nlB x) : piece b (r ++ x) = piece b r := by
  unfold piece
  split
  · rfl
  split
  · rename_i h
    rcases hn with hn | hn
    · exact (hn h).elim
    · rw [run_app hn]
  split
  · rfl
  simp only [run_app hx.1, run_app hx.2.1, take_app, head_app hx.2.2]
def Rs.app : Rs → Rs → Rs
  | .ok ts, y => Rs.pre ts y
  | .err p e, _ => .err p e
theorem pre_app (us : List Tk) (x y : Rs) : Rs.pre us (x.app y) = (Rs.pre us x).app y := by
  cases x with
  | ok ts => exact pre_pre us ts y
  | err a e => rfl
theorem lex_beh : ∀ (n : Nat) (l : List UInt8) (a : Int) (x : List UInt8), l.length ≤ n → hard x → (headNot nlB x ∨ ∀ c ∈ l, c.toNat ≠ 35) → lexL (l ++ x) a = (lexL l a).app (lexL x (a + l.length)) := by
  intro n
  induction n with
  | zero =>
    intro l a x hl hx hn
    obtain rfl : l = [] := List.length_eq_zero_iff.1 (by omega)
    rw [lex_nil, List.nil_append]; simp [Rs.app, pre_nil]
  | succ n ih =>
    intro l a x hl hx hn
    cases l with
    | nil => rw [lex_nil, List.nil_append]; simp [Rs.app, pre_nil]
    | cons b r =>
      simp at hl
      have hpa : piece b (r ++ x) = piece b r := piece_app hx r (hn.elim .inr fun h => .inl (h b (by simp)))
      have hn' : ∀ k, headNot nlB x ∨ ∀ c ∈ r.drop k, c.toNat ≠ 35 := fun k => hn.imp id fun h c hc => h c (List.mem_cons_of_mem _ (List.mem_of_mem_drop hc))
      have hlen : ∀ k : Nat, k ≤ r.length → a + 1 + (k : Int) + ((r.drop k).length : Nat) = a + ((b :: r).length : Nat) := fun k hk => by rw [List.length_drop, List.length_cons]; omega
      rw [List.cons_append]
      cases hp : piece b r with
      | skip k =>
        have hk := skip_le hp
        rw [lex_skip hp, lex_skip (hpa.trans hp), List.drop_append_of_le_length hk, ih _ _ _ (by rw [List.length_drop]; omega) hx (hn' k), hlen k hk]
      | tok kd w v k =>
        have hk := piece_le hp
        rw [lex_tok hp, lex_tok (hpa.trans hp), List.drop_append_of_le_length hk, ih _ _ _ (by rw [List.length_drop]; omega) hx (hn' k), hlen k hk, pre_app]
      | bad e => rw [lex_bad hp, lex_bad (hpa.trans hp)]; rfl
theorem hard_nl (x : List UInt8) : hard (10 :: x) ∧ headNot nlB (10 :: x) := ⟨⟨fun c hc => by simp at hc; subst hc; decide, fun c hc => by simp at hc; subst hc; decide, by simp⟩, fun c hc => by simp at hc; subst hc; decide⟩
theorem hard_bl (x : List UInt8) : hard (32 :: x) := ⟨fun c hc => by simp at hc; subst hc; decide, fun c hc => by simp at hc; subst hc; decide, by simp⟩
theorem hard_tb (x : List UInt8) : hard (9 :: x) := ⟨fun c hc => by simp at hc; subst hc; decide, fun c hc => by simp at hc; subst hc; decide, by simp⟩
theorem hard_cl (x : List UInt8) : hard (41 :: x) := ⟨fun c hc => by simp at hc; subst hc; decide, fun c hc => by simp at hc; subst hc; decide, by simp⟩
theorem lex_nl (a : Int) (x : List UInt8) : lexL (10 :: x) a = Rs.pre [⟨4, a, [], 0⟩] (lexL x (a + 1)) := by
  have hp : piece 10 x = .tok 4 [] 0 0 := by unfold piece; rw [if_neg (by decide), if_neg (by decide), if_pos (by decide)]
  rw [lex_tok hp, List.drop_zero]; simp
theorem lex_bl (a : Int) (x : List UInt8) : lexL (32 :: x) a = lexL x (a + 1) := by rw [bl_skip (by decide)]; rfl
theorem lex_tb (a : Int) (x : List UInt8) : lexL (9 :: x) a = lexL x (a + 1) := by rw [bl_skip (by decide)]; rfl
theorem lex_sgn {b : UInt8} (h : ∀ y, piece b y = .tok 3 [b] 0 0) (a : Int) (x : List UInt8) : lexL (b :: x) a = Rs.pre [⟨3, a, [b], 0⟩] (lexL x (a + 1)) := by
  rw [lex_tok (h x), List.drop_zero]; simp
theorem piece_open (y : List UInt8) : piece 40 y = .tok 3 [40] 0 0 := by
  unfold piece; rw [if_neg (by decide), if_neg (by decide), if_neg (by decide), if_neg (by decide), if_neg (by decide), if_neg (fun h => absurd h.1 (by decide)), if_neg (fun h => absurd h.1 (by decide)), if_pos (by decide)]
theorem piece_close (y : List UInt8) : piece 41 y = .tok 3 [41] 0 0 := by
  unfold piece; rw [if_neg (by decide), if_neg (by decide), if_neg (by decide), if_neg (by decide), if_neg (by decide), if_neg (fun h => absurd h.1 (by decide)), if_neg (fun h => absurd h.1 (by decide)), if_pos (by decide)]
theorem piece_colon (y : List UInt8) : piece 58 y = .tok 3 [58] 0 0 := by
  unfold piece; rw [if_neg (by decide), if_neg (by decide), if_neg (by decide), if_neg (by decide), if_neg (by decide), if_neg (fun h => absurd h.1 (by decide)), if_neg (fun h => absurd h.1 (by decide)), if_pos (by decide)]
/-- What tokens of a text are like. -/
def Tok (t : Tk) : Prop := (t.k = 1 ∨ t.k = 2 ∨ t.k = 3 ∨ t.k = 4) ∧ (t.k = 4 → t.w = [] ∧ t.n = 0) ∧ (t.k = 2 → t.w = []) ∧ ((t.k = 1 ∨ t.k = 3) → t.w ≠ [] ∧ t.n = 0) ∧ t.w.length ≤ 16
theorem piece_tokS {b : UInt8} {r : List UInt8} {kd v : Int} {w : List UInt8} {k : Nat} (h : piece b r = .tok kd w v k) (a : Int) : Tok ⟨kd, a, w, v⟩ ∧ (kd = 4 → b.toNat = 10) := by
  refine ⟨?_, ?_⟩
  · rcases piece_kind h with ⟨rfl, rfl, _, rfl⟩ | ⟨rfl, rfl, _, _⟩ | ⟨h1, rfl, h3, rfl⟩
    · exact ⟨by simp, fun _ => ⟨rfl, rfl⟩, fun _ => rfl, fun h => by simp at h, by simp⟩
    · exact ⟨by simp, fun _ => by simp_all, fun _ => rfl, fun h => by simp at h, by simp⟩
    · refine ⟨?_, ?_, ?_, fun _ => ⟨by simp, rfl⟩, by simp; omega⟩
      · rcases h1 with rfl | rfl <;> simp
      · rcases h1 with rfl | rfl <;> simp
      · rcases h1 with rfl | rfl <;> simp
  · rintro rfl
    unfold piece at h
    split at h
    · cases h
    split at h
    · cases h
    split at h
    · assumption
    split at h
    · split at h <;> cases h
    have hnum : ∀ {o : Option Int} {j : Nat}, numP o j = .tok 4 w v k → False := by
      intro o j hp
      cases o <;> cases hp
    split at h
    · exact (hnum h).elim
    split at h
    · exact (hnum h).elim
    split at h
    · cases h
    split at h <;> cases h
theorem lex_tokS : ∀ (n : Nat) (l : List UInt8) (a : Int), l.length ≤ n → ∀ ts, lexL l a = .ok ts → (∀ t ∈ ts, Tok t) ∧ ((∀ c ∈ l, c.toNat ≠ 10) → ∀ t ∈ ts, t.k ≠ 4) := by
  intro n
  induction n with
  | zero =>
    intro l a hl ts h
    obtain rfl : l = [] := List.length_eq_zero_iff.1 (by omega)
    rw [lex_nil] at h; injection h with h; subst h
    exact ⟨fun t ht => by simp at ht, fun _ t ht => by simp at ht⟩
  | succ n ih =>
    intro l a hl ts h
    cases l with
    | nil => rw [lex_nil] at h; injection h with h; subst h; exact ⟨fun t ht => by simp at ht, fun _ t ht => by simp at ht⟩
    | cons b r =>
      simp at hl
      cases hp : piece b r with
      | skip k =>
        rw [lex_skip hp] at h
        have h1 := ih _ _ (by rw [List.length_drop]; omega) _ h
        exact ⟨h1.1, fun hc => h1.2 fun c hm => hc c (List.mem_cons_of_mem _ (List.mem_of_mem_drop hm))⟩
      | tok kd w v k =>
        rw [lex_tok hp] at h
        obtain ⟨vs, hv, rfl⟩ := pre_ok h
        have h1 := ih _ _ (by rw [List.length_drop]; omega) _ hv
        have h2 := piece_tokS hp a
        refine ⟨fun t ht => ?_, fun hc t ht => ?_⟩
        · simp only [List.cons_append, List.nil_append, List.mem_cons] at ht
          rcases ht with rfl | ht
          · exact h2.1
          · exact h1.1 t ht
        · simp only [List.cons_append, List.nil_append, List.mem_cons] at ht
          rcases ht with rfl | ht
          · exact fun e => hc b (by simp) (h2.2 e)
          · exact h1.2 (fun c hm => hc c (List.mem_cons_of_mem _ (List.mem_of_mem_drop hm))) t ht
      | bad e => rw [lex_bad hp] at h; cases h
end Go.Proofs.YtbapgdhcbfpdoaaGreatDoor
/- Where a fault is told, and what is read ahead of it: over plain lists. -/
namespace Go.Proofs.YtbapgdhcbfpdoaaGreatDoor
open Go.RowKit
theorem addR_nz {p : Pg} {ts : List Tk} {a c : Int} (h : addR p ts = .err a c) : 40 ≤ c ∧ c ≤ 46 := by
  have hln : ∀ nm pl us, addLnR p nm pl us = .err a c → 40 ≤ c ∧ c ≤ 46 := by
    intro nm pl us h1
    unfold addLnR at h1
    split at h1
    · rename_i a' e' h2
      injection h1 with h3 h4
      subst h4
      have := mrun_err _ _ _ _ _ _ _ (Nat.le_refl _) h2
      omega
    · cases h1
  have hsd : ∀ us l, sidesR us l = .err a c → 40 ≤ c ∧ c ≤ 46 := by
    intro us
    induction us with
    | nil => intro l h1; rw [sidesR] at h1; cases h1
    | cons u us ih =>
      intro l h1
      rw [sidesR] at h1
      split at h1
      · injection h1 with _ h1; omega
      split at h1
      · injection h1 with _ h1; omega
      · exact ih _ h1
  have hin : ∀ f r, addInR p f r = .err a c → 40 ≤ c ∧ c ≤ 46 := by
    intro f r h1
    unfold addInR at h1
    split at h1
    · injection h1 with _ h1; omega
    · split at h1
      · cases h1
      · split at h1
        · injection h1 with _ h1; omega
        · split at h1
          · injection h1 with _ h1; omega
          · split at h1
            · rename_i a' e' h2
              injection h1 with h3 h4
              subst h3 h4
              exact hsd _ _ h2
            · cases h1
  unfold addR at h
  split at h
  · cases h
  · split at h
    · cases h
    split at h
    · injection h with _ h; omega
    split at h
    · injection h with _ h; omega
    split at h
    · injection h with _ h; omega
    split at h
    · exact hin _ _ h
    split at h
    · exact hln _ _ _ h
    split at h
    · injection h with _ h; omega
    split at h
    · injection h with _ h; omega
    exact hln _ _ _ h
theorem sides_place : ∀ (us : List Tk) (l : List (List UInt8 × Int)) {a c : Int}, sidesR us l = .err a c → ∃ t ∈ us, t.a = a := by
  intro us
  induction us with
  | nil => intro l a c h; rw [sidesR] at h; cases h
  | cons u us ih =>
    intro l a c h
    rw [sidesR] at h
    split at h
    · injection h with h _; exact ⟨u, by simp, h⟩
    split at h
    · injection h with h _; exact ⟨u, by simp, h⟩
    · obtain ⟨t, h1, h2⟩ := ih _ h; exact ⟨t, by simp [h1], h2⟩
theorem addR_place {p : Pg} {ts : List Tk} {a c : Int} (he : Ends ts) (h : addR p ts = .err a c) : ∃ t ∈ ts, t.a = a := by
  have hln : ∀ nm pl us, addLnR p nm pl us = .err a c → ∃ t ∈ us, t.a = a := by
    intro nm pl us h1
    unfold addLnR at h1
    split at h1
    · rename_i a' e' h2
      injection h1 with h3 h4
      subst h3
      exact (mrun_err _ _ _ _ _ _ _ (Nat.le_refl _) h2).2.2
    · cases h1
  have hin : ∀ f r, addInR p f r = .err a c → ∃ t ∈ f :: r, t.a = a := by
    intro f r h1
    unfold addInR at h1
    split at h1
    · injection h1 with h1 _; exact ⟨f, by simp, h1⟩
    · split at h1
      · cases h1
      · rename_i t r
        split at h1
        · injection h1 with h1 _; exact ⟨t, by simp, h1⟩
        · split at h1
          · injection h1 with h1 _; exact ⟨t, by simp, h1⟩
          · split at h1
            · rename_i a' e' h2
              injection h1 with h3 h4
              subst h3 h4
              obtain ⟨u, hu, hu2⟩ := sides_place _ _ h2
              exact ⟨u, by simp [(List.dropLast_sublist r).subset hu], hu2⟩
            · cases h1
  unfold addR at h
  split at h
  · cases h
  · rename_i f r
    split at h
    · cases h
    rename_i hk
    split at h
    · injection h with h _; exact ⟨f, by simp, h⟩
    split at h
    · rename_i h256
      injection h with h _
      refine ⟨(f :: r).getD 256 default, ?_, h⟩
      rw [List.getD_eq_getElem?_getD, List.getElem?_eq_getElem (by simp; omega)]
      exact List.getElem_mem _
    split at h
    · injection h with h _; exact ⟨f, by simp, h⟩
    split at h
    · exact hin _ _ h
    split at h
    · obtain ⟨t, h1, h2⟩ := hln _ _ _ h; exact ⟨t, by simp [h1], h2⟩
    split at h
    · injection h with h _; exact ⟨f, by simp, h⟩
    split at h
    · injection h with h _
      cases r with
      | nil => exact (hk (he.resolve_right fun h => h).2.1).elim
      | cons g r => exact ⟨g, by simp, h⟩
    obtain ⟨t, h1, h2⟩ := hln _ _ _ h
    exact ⟨t, by simp [List.mem_of_mem_drop h1], h2⟩
theorem find_app {A B : List Tk} (h : A.findIdx isEnd < A.length) : cutAt (A ++ B) = cutAt A := by
  unfold cutAt; rw [List.findIdx_append, if_pos h]
/-- Lines, ahead of others. -/
theorem lines_app : ∀ (n : Nat) (A : List Tk) (p : Pg), A.length ≤ n → (∀ t ∈ A, Gd t) → (A ≠ [] → ∃ vs t, A = vs ++ [t] ∧ t.k = 4) →
    (∃ q, ∀ e B, linesR e p (A ++ B) = linesR e q B) ∨ (∃ a c, (∃ t ∈ A, t.a = a) ∧ ∀ e B, linesR e p (A ++ B) = .err a c) := by
  intro n
  induction n with
  | zero =>
    intro A p h _ _
    obtain rfl : A = [] := List.length_eq_zero_iff.1 (by omega)
    exact .inl ⟨p, fun e B => rfl⟩
  | succ n ih =>
    intro A p h hg hf
    cases A with
    | nil => exact .inl ⟨p, fun e B => rfl⟩
    | cons f r =>
      obtain ⟨vs, t, e1, e2⟩ := hf (by simp)
      have hk := find_lt (us := f :: r) (e := t) (by rw [e1]; simp) e2
      have hcut : cutAt (f :: r) ≤ (f :: r).length := by unfold cutAt; omega
      have h1 : ∀ B, cutAt (f :: (r ++ B)) = cutAt (f :: r) := fun B => find_app (A := f :: r) hk
      have h2 : ∀ B, (f :: (r ++ B)).take (cutAt (f :: (r ++ B))) = (f :: r).take (cutAt (f :: r)) := fun B => by
        rw [h1]; exact List.take_append_of_le_length (l₁ := f :: r) hcut
      have h3 : ∀ B, (f :: (r ++ B)).drop (cutAt (f :: (r ++ B))) = (f :: r).drop (cutAt (f :: r)) ++ B := fun B => by
        rw [h1]; exact List.drop_append_of_le_length (l₁ := f :: r) hcut
      cases hx : addR p ((f :: r).take (cutAt (f :: r))) with
      | err a c =>
        right
        obtain ⟨t, ht, ha⟩ := addR_place (ends_take hk hg) hx
        refine ⟨a, c, ⟨t, List.mem_of_mem_take ht, ha⟩, fun e B => ?_⟩
        rw [List.cons_append]
        exact lines_err (by rw [h2]; exact hx)
      | ok q =>
        have hrec := ih ((f :: r).drop (cutAt (f :: r))) q (by rw [List.length_drop]; simp at h ⊢; unfold cutAt; omega) (fun t ht => hg t (List.mem_of_mem_drop ht)) (fun hd => by
          rw [e1] at hd ⊢
          refine ⟨vs.drop (cutAt (vs ++ [t])), t, ?_, e2⟩
          rcases Nat.lt_or_ge (cutAt (vs ++ [t])) (vs ++ [t]).length with h5 | h5
          · rw [List.drop_append_of_le_length (by simp at h5; omega)]
          · exact (hd (List.drop_of_length_le h5)).elim)
        have hgo : ∀ e B, linesR e p (f :: r ++ B) = linesR e q ((f :: r).drop (cutAt (f :: r)) ++ B) := fun e B => by
          rw [List.cons_append, lines_ok (by rw [h2]; exact hx), h3]
        rcases hrec with ⟨q', h4⟩ | ⟨a, c, ⟨t, ht, ha⟩, h4⟩
        · exact .inl ⟨q', fun e B => by rw [hgo, h4]⟩
        · exact .inr ⟨a, c, ⟨t, List.mem_of_mem_drop ht, ha⟩, fun e B => by rw [hgo, h4]⟩
theorem lex_code : ∀ (n : Nat) (l : List UInt8) (a : Int), l.length ≤ n → ∀ p e, lexL l a = .err p e → 31 ≤ e ∧ e ≤ 33 := by
  have hb : ∀ {b : UInt8} {r : List UInt8} {e : Int}, piece b r = .bad e → 31 ≤ e ∧ e ≤ 33 := by
    intro b r e hp
    have hn : ∀ {o : Option Int} {j : Nat}, numP o j = .bad e → 31 ≤ e ∧ e ≤ 33 := by
      intro o j h
      cases o with
      | none => injection h with h; omega
      | some x => cases h
    unfold piece at hp
    split at hp
    · cases hp
    split at hp
    · cases hp
    split at hp
    · cases hp
    split at hp
    · split at hp
      · injection hp with hp; omega
      · cases hp
    split at hp
    · exact hn hp
    split at hp
    · exact hn hp
    split at hp
    · cases hp
    split at hp
    · cases hp
    · injection hp with hp; omega
  intro n
  induction n with
  | zero =>
    intro l a hl p e h
    obtain rfl : l = [] := List.length_eq_zero_iff.1 (by omega)
    rw [lex_nil] at h; cases h
  | succ n ih =>
    intro l a hl p e h
    cases l with
    | nil => rw [lex_nil] at h; cases h
    | cons b r =>
      simp at hl
      cases hp : piece b r with
      | skip k => rw [lex_skip hp] at h; exact ih _ _ (by rw [List.length_drop]; omega) _ _ h
      | tok kd w v k => rw [lex_tok hp] at h; exact ih _ _ (by rw [List.length_drop]; omega) _ _ (pre_err h)
      | bad e' => rw [lex_bad hp] at h; injection h with h1 h2; subst h2; exact hb hp
theorem tok_gd {t : Tk} (h : Tok t) : Gd t := ⟨by have := h.2.2.2.2; omega, fun e => (h.2.1 e).1⟩
theorem pz_ok {l : List UInt8} {ts : List Tk} (h : lexR l = .ok ts) : parseR l = linesR l.length ⟨[], []⟩ (ts ++ [⟨4, l.length, [], 0⟩]) := by unfold parseR; rw [h]
theorem pz_bad {l : List UInt8} {a c : Int} (h : lexR l = .err a c) : parseR l = .err a c := by unfold parseR; rw [h]
theorem pz_empty : parseR [] = .err 0 42 := by rw [← parseF_eq (by simp)]; rfl
/-- A fault of a program: where, and which. -/
theorem pz_err {l : List UInt8} {a c : Int} (h : parseR l = .err a c) : (∃ n : Nat, a = n ∧ n ≤ l.length) ∧ (30 ≤ c ∧ c ≤ 33 ∨ 40 ≤ c ∧ c ≤ 46 ∧ l.length ≤ 65536 ∧ ∃ ts, lexL l 0 = .ok ts) := by
  cases hx : lexR l with
  | err a' c' =>
    rw [pz_bad hx] at h
    injection h with h1 h2
    subst h1 h2
    unfold lexR at hx
    split at hx
    · injection hx with h1 h2
      exact ⟨⟨0, by omega, by omega⟩, .inl (by omega)⟩
    · have h3 := lex_code _ _ _ (Nat.le_refl _) _ _ hx
      obtain ⟨_, m, h4, h5, _⟩ := cut_err hx
      exact ⟨⟨m, h4, by omega⟩, .inl (by omega)⟩
  | ok ts =>
    rw [pz_ok hx] at h
    have hg := lexR_gd hx
    unfold lexR at hx
    split at hx
    · cases hx
    have hpl := (lex_places _ _ _ (Nat.le_refl _) _ hx).1
    have hplace : ∀ t ∈ ts ++ [(⟨4, l.length, [], 0⟩ : Tk)], ∃ n : Nat, t.a = n ∧ n ≤ l.length := fun t ht => by
      rcases List.mem_append.1 ht with ht | ht
      · have := hpl t ht
        exact ⟨t.a.toNat, by omega, by omega⟩
      · simp at ht; subst ht; exact ⟨l.length, rfl, Nat.le_refl _⟩
    have hcode : ∀ (n : Nat) (A : List Tk) (p : Pg), A.length ≤ n → linesR l.length p A = .err a c → 40 ≤ c ∧ c ≤ 46 := by
      intro n
      induction n with
      | zero =>
        intro A p hA h
        obtain rfl : A = [] := List.length_eq_zero_iff.1 (by omega)
        rw [lines_nil] at h
        split at h
        · cases h
        · injection h with _ h; omega
      | succ n ih =>
        intro A p hA h
        cases A with
        | nil =>
          rw [lines_nil] at h
          split at h
          · cases h
          · injection h with _ h; omega
        | cons f r =>
          cases hq : addR p ((f :: r).take (cutAt (f :: r))) with
          | err a' c' => rw [lines_err hq] at h; injection h with h1 h2; subst h1 h2; exact addR_nz hq
          | ok q => rw [lines_ok hq] at h; exact ih _ _ (by simp [cutAt] at hA ⊢; omega) h
    refine ⟨?_, .inr ⟨(hcode _ _ _ (Nat.le_refl _) h).1, (hcode _ _ _ (Nat.le_refl _) h).2, by omega, ts, hx⟩⟩
    have hall := lines_app _ (ts ++ [(⟨4, l.length, [], 0⟩ : Tk)]) ⟨[], []⟩ (Nat.le_refl _) (fun t ht => by
      rcases List.mem_append.1 ht with ht | ht
      · exact hg.1 t ht
      · simp at ht; subst ht; exact ⟨by simp, fun _ => rfl⟩) (fun _ => ⟨ts, _, rfl, rfl⟩)
    rcases hall with ⟨q, h1⟩ | ⟨a', c', ⟨t, ht, h2⟩, h3⟩
    · have h4 := h1 l.length []
      rw [List.append_nil, h, lines_nil] at h4
      split at h4
      · cases h4
      · injection h4 with h4 _; exact ⟨l.length, h4, Nat.le_refl _⟩
    · have h4 := h3 l.length []
      rw [List.append_nil, h] at h4
      injection h4 with h4 _
      obtain ⟨n, hn1, hn2⟩ := hplace t ht
      exact ⟨n, by omega, hn2⟩
/-- All that stands ahead of the line of a fault is of a program so far. -/
theorem pz_cut {l : List UInt8} {a c : Int} (h : parseR l = .err a c) (hc : 40 ≤ c) {m : Nat} (hm : (m : Int) ≤ a) (hml : m ≤ l.length) (hl : m = 0 ∨ l[m - 1]? = some 10) : (∃ q, parseR (l.take m) = .ok q) ∨ parseR (l.take m) = .err m 42 := by
  obtain ⟨_, h0 | ⟨_, _, hlen, ts, hx⟩⟩ := pz_err h
  · omega
  rcases Nat.eq_zero_or_pos m with rfl | hmp
  · right; rw [List.take_zero]; exact pz_empty
  · have hl : l[m - 1]? = some 10 := hl.resolve_left (by omega)
    obtain ⟨A, B, e, hA⟩ : ∃ A B, l = A ++ 10 :: B ∧ A.length = m - 1 := by
      refine ⟨l.take (m - 1), l.drop m, ?_, by rw [List.length_take]; omega⟩
      have hlt : m - 1 < l.length := by omega
      rw [List.getElem?_eq_getElem hlt] at hl
      injection hl with hl
      rw [← hl]
      have := List.take_append_drop (m - 1) l
      rw [List.drop_eq_getElem_cons hlt, show m - 1 + 1 = m by omega] at this
      exact this.symm
    have htk : l.take m = A ++ [10] := by
      rw [e, show A ++ 10 :: B = (A ++ [10]) ++ B by simp, List.take_append_of_le_length (by simp; omega), List.take_of_length_le (by simp; omega)]
    have hgen : ∀ B, lexL (A ++ 10 :: B) 0 = (lexL A 0).app (Rs.pre [⟨4, (m : Int) - 1, [], 0⟩] (lexL B m)) := fun B => by
      rw [lex_beh _ A 0 (10 :: B) (Nat.le_refl _) (hard_nl B).1 (.inl (hard_nl B).2), hA, lex_nl, show (0 : Int) + ((m - 1 : Nat) : Int) = (m : Int) - 1 from by omega, Int.sub_add_cancel]
    have hx2 := hx
    rw [e, hgen] at hx2
    cases hA2 : lexL A 0 with
    | err a' c' => rw [hA2] at hx2; cases hx2
    | ok x =>
      rw [hA2] at hx2
      cases hB2 : lexL B m with
      | err a' c' => rw [hB2] at hx2; cases hx2
      | ok y =>
        rw [hB2] at hx2
        simp only [Rs.app, Rs.pre, Rs.ok.injEq] at hx2
        have ht1 : lexR (l.take m) = .ok (x ++ [⟨4, (m : Int) - 1, [], 0⟩]) := by
          rw [htk, lexR, if_neg (by simp; omega), hgen, hA2, lex_nil]; rfl
        have hl2 : lexR l = .ok ts := by rw [lexR, if_neg (by omega)]; exact hx
        have hgd := lexR_gd ht1
        rw [pz_ok hl2, ← hx2] at h
        rw [pz_ok ht1]
        have hpl := (lex_places _ _ _ (Nat.le_refl _) _ hA2).1
        rcases lines_app _ (x ++ [⟨4, (m : Int) - 1, [], 0⟩]) ⟨[], []⟩ (Nat.le_refl _) hgd.1 (fun _ => ⟨x, _, rfl, rfl⟩) with ⟨q, h1⟩ | ⟨a', c', ⟨t, ht, h2⟩, h3⟩
        · rw [h1, lines_ok (p := q) (q := q) (by simp [cutAt, addR, isEnd, List.findIdx_cons])]
          have hd : List.drop (cutAt [(⟨4, ((l.take m).length : Nat), [], 0⟩ : Tk)]) [(⟨4, ((l.take m).length : Nat), [], 0⟩ : Tk)] = [] := List.drop_of_length_le (by simp [cutAt])
          rw [hd, lines_nil]
          split
          · exact .inl ⟨q, rfl⟩
          · right; rw [List.length_take]; congr 1; omega
        · exfalso
          have h4 := h3 l.length (y ++ [⟨4, l.length, [], 0⟩])
          rw [show x ++ [⟨4, (m : Int) - 1, [], 0⟩] ++ (y ++ [(⟨4, l.length, [], 0⟩ : Tk)]) = x ++ ([⟨4, (m : Int) - 1, [], 0⟩] ++ y) ++ [⟨4, l.length, [], 0⟩] by simp, h] at h4
          injection h4 with h4 _
          rcases List.mem_append.1 ht with ht | ht
          · have := hpl t ht; omega
          · simp at ht; subst ht; simp at h2; omega
end Go.Proofs.YtbapgdhcbfpdoaaGreatDoor
/- Items that are read are of their valence; programs that are read have names. Over plain lists. -/
namespace Go.Proofs.YtbapgdhcbfpdoaaGreatDoor
open Go.RowKit
def tk1 (f : Int) : Bool := (decide (1 ≤ f) && decide (f ≤ 7)) || (f == 16)
def tk2 (f : Int) : Bool := decide (1 ≤ f) && decide (f ≤ 17) && (f != 16)
/-- May a verb take so many? -/
def takesI (x : It) : Bool := if x.how = 3 then tk1 x.fn || (decide (32 ≤ x.fn) && decide (x.fn ≤ 36)) else if x.how = 4 then tk2 x.fn || (decide (37 ≤ x.fn) && decide (x.fn ≤ 40)) else tk2 x.fn
/-- An item as it is read. -/
def ItOk (x : It) : Prop :=
  (x.how = 1 ∧ x.ns ≠ [] ∧ x.nm = [] ∧ x.fn = 0) ∨ (x.how = 2 ∧ x.ns = [] ∧ x.nm ≠ [] ∧ x.fn = 0) ∨ ((isM x ∨ isD x) ∧ takesI x = true ∧ 1 ≤ x.fn ∧ x.fn ≤ 40 ∧ x.ns = [] ∧ x.nm = [])
theorem vlook_mem : ∀ (l : List (List UInt8 × Int × Int)) (w : List UInt8), vlookIn l w = (0, 0) ∨ ∃ v, (v, vlookIn l w) ∈ l
  | [], w => .inl rfl
  | (v, x) :: r, w => by
    unfold vlookIn
    split
    · exact .inr ⟨v, by simp⟩
    · rcases vlook_mem r w with h | ⟨v', h⟩
      · exact .inl h
      · exact .inr ⟨v', List.mem_cons_of_mem _ h⟩
theorem vtab_one : (vtab.all fun e => (e.2.1 == 0) || ((tk1 e.2.1 || (decide (32 ≤ e.2.1) && decide (e.2.1 ≤ 36))) && decide (1 ≤ e.2.1) && decide (e.2.1 ≤ 40))) = true := by decide
theorem vtab_two : (vtab.all fun e => (e.2.2 == 0) || ((tk2 e.2.2 || (decide (37 ≤ e.2.2) && decide (e.2.2 ≤ 40))) && decide (1 ≤ e.2.2) && decide (e.2.2 ≤ 40))) = true := by decide
theorem vtab_betw : (vtab.all fun e => (e.2.2 == 0) || decide (17 < e.2.2) || (tk2 e.2.2)) = true := by decide
theorem verbR_one {w : List UInt8} (h : verbR w false ≠ 0) : (tk1 (verbR w false) || (decide (32 ≤ verbR w false) && decide (verbR w false ≤ 36))) = true ∧ 1 ≤ verbR w false ∧ verbR w false ≤ 40 := by
  have e : verbR w false = (vlookIn vtab w).1 := rfl
  rw [e] at h ⊢
  rcases vlook_mem vtab w with h1 | ⟨v, h1⟩
  · rw [h1] at h; exact (h rfl).elim
  · have h2 := List.all_eq_true.1 vtab_one _ h1
    simp only at h2
    rw [show ((vlookIn vtab w).1 == 0) = false by simpa using h, Bool.false_or, Bool.and_eq_true, Bool.and_eq_true, decide_eq_true_eq, decide_eq_true_eq] at h2
    exact ⟨h2.1.1, h2.1.2, h2.2⟩
theorem verbR_two {w : List UInt8} (h : verbR w true ≠ 0) : (tk2 (verbR w true) || (decide (37 ≤ verbR w true) && decide (verbR w true ≤ 40))) = true ∧ 1 ≤ verbR w true ∧ verbR w true ≤ 40 := by
  have e : verbR w true = (vlookIn vtab w).2 := rfl
  rw [e] at h ⊢
  rcases vlook_mem vtab w with h1 | ⟨v, h1⟩
  · rw [h1] at h; exact (h rfl).elim
  · have h2 := List.all_eq_true.1 vtab_two _ h1
    simp only at h2
    rw [show ((vlookIn vtab w).2 == 0) = false by simpa using h, Bool.false_or, Bool.and_eq_true, Bool.and_eq_true, decide_eq_true_eq, decide_eq_true_eq] at h2
    exact ⟨h2.1.1, h2.1.2, h2.2⟩
theorem betw_two {w : List UInt8} (h : betw w ≠ 0) : tk2 (betw w) = true ∧ 1 ≤ betw w ∧ betw w ≤ 40 := by
  unfold betw at h ⊢
  split at h
  · exact (h rfl).elim
  · rename_i h17
    rw [if_neg h17]
    have e : verbR w true = (vlookIn vtab w).2 := rfl
    refine ⟨?_, (verbR_two h).2⟩
    rw [e] at h h17 ⊢
    rcases vlook_mem vtab w with h1 | ⟨v, h1⟩
    · rw [h1] at h; exact (h rfl).elim
    · have h2 := List.all_eq_true.1 vtab_betw _ h1
      simp only at h2
      rw [show ((vlookIn vtab w).2 == 0) = false by simpa using h, show decide (17 < (vlookIn vtab w).2) = false by simpa using h17] at h2
      simpa using h2
theorem phR_ok {w : List UInt8} {b : Bool} {m : List UInt8} {a : Int} (h : (phR w b m).2 ≠ 0) : ItOk ⟨(phR w b m).1, a, (phR w b m).2, [], []⟩ := by
  have hh := phR_how h
  refine .inr (.inr ⟨?_, ?_⟩)
  · rcases hh with ⟨_, hh⟩ | ⟨_, hh⟩
    · exact .inl hh
    · exact .inr hh
  unfold phR at h ⊢
  split at h
  · rename_i h1; rw [if_pos h1]; have := betw_two h; exact ⟨by simpa [takesI] using this.1, this.2.1, this.2.2, rfl, rfl⟩
  rename_i h1; rw [if_neg h1]
  split at h
  · rename_i h1; rw [if_pos h1]; have := betw_two h; exact ⟨by simpa [takesI] using this.1, this.2.1, this.2.2, rfl, rfl⟩
  rename_i h1; rw [if_neg h1]
  split at h
  · rename_i h1; rw [if_pos h1]; have := betw_two h; exact ⟨by simpa [takesI] using this.1, this.2.1, this.2.2, rfl, rfl⟩
  rename_i h1; rw [if_neg h1]
  split at h
  · rename_i h1; rw [if_pos h1]; have := verbR_two h; exact ⟨by simpa [takesI] using this.1, this.2.1, this.2.2, rfl, rfl⟩
  rename_i h1; rw [if_neg h1]
  split at h
  · rename_i h1; rw [if_pos h1]; have := verbR_one h; exact ⟨by simpa [takesI] using this.1, this.2.1, this.2.2, rfl, rfl⟩
  · exact (h rfl).elim
theorem settle_all {P : It → Prop} : ∀ (s : List (Option It)) (l : List It), (∀ x ∈ l, P x) → (∀ y ∈ s, ∀ x, y = some x → P x) → (∀ x ∈ (settleL l s).1, P x) ∧ (∀ y ∈ (settleL l s).2, ∀ x, y = some x → P x)
  | [], l, hl, hs => ⟨hl, hs⟩
  | none :: s, l, hl, hs => ⟨hl, fun y hy => hs y (List.mem_cons_of_mem _ hy)⟩
  | some x :: s, l, hl, hs => settle_all s (l ++ [x]) (fun y hy => by
      rcases List.mem_append.1 hy with h | h
      · exact hl y h
      · simp at h; subst h; exact hs (some y) (by simp) y rfl) (fun y hy => hs y (List.mem_cons_of_mem _ hy))
theorem name_ne {w : List UInt8} (h : nameB w = true) : w ≠ [] := by rintro rfl; exact absurd h (by decide)
theorem mrun_items : ∀ (n : Nat) (ts : List Tk) (b : Bool) (l : List It) (s : List (Option It)) (x : List It), ts.length ≤ n → (∀ y ∈ l, ItOk y) → (∀ y ∈ s, ∀ z, y = some z → ItOk z) → mrun ts b l s = .ok x → ∀ y ∈ x, ItOk y := by
  intro n
  induction n with
  | zero =>
    intro ts b l s x hn hl hs h
    obtain rfl : ts = [] := List.eq_nil_of_length_eq_zero (by omega)
    rw [mrun] at h; injection h with h; subst h; exact hl
  | succ n ih =>
    intro ts b l s x hn hl hs h
    cases ts with
    | nil => rw [mrun] at h; injection h with h; subst h; exact hl
    | cons t r =>
      simp only [List.length_cons] at hn
      have h1 := mk_len r
      have h2 := past_len r
      have snoc : ∀ y : It, ItOk y → ∀ z ∈ l ++ [y], ItOk z := fun y hy z hz => by
        rcases List.mem_append.1 hz with h | h
        · exact hl z h
        · simp at h; subst h; exact hy
      have push : ∀ o : Option It, (∀ z, o = some z → ItOk z) → ∀ y ∈ o :: s, ∀ z, y = some z → ItOk z := fun o ho y hy z hz => by
        rcases List.mem_cons.1 hy with h | h
        · subst h; exact ho z hz
        · exact hs y h z hz
      rw [mrun_cons] at h
      split at h
      · split at h
        · cases h
        · rename_i hf
          exact ih _ _ _ _ _ (by omega) hl (push _ fun z hz => by injection hz with hz; subst hz; exact phR_ok hf) h
      · split at h
        · split at h
          · exact ih _ _ _ _ _ (by omega) (snoc _ (.inl ⟨rfl, by simp, rfl, rfl⟩)) hs h
          · split at h
            · rename_i hnm
              exact ih _ _ _ _ _ (by omega) (snoc _ (.inr (.inl ⟨rfl, rfl, name_ne hnm, rfl⟩))) hs h
            · split at h
              · split at h
                · cases h
                · exact ih _ _ _ _ _ (by omega) hl (push _ fun z hz => by cases hz) h
              · split at h <;> cases h
        · have hse := settle_all (P := ItOk) s l hl hs
          split at h
          · split at h
            · cases h
            · injection h with h; subst h; exact hse.1
          · split at h
            · exact ih _ _ _ _ _ (by omega) hse.1 hse.2 h
            · cases h
theorem expr_items {ts : List Tk} {x : List It} (h : exprR ts = .ok x) : ∀ y ∈ x, ItOk y := mrun_items _ ts false [] [] x (Nat.le_refl _) (fun y hy => by simp at hy) (fun y hy => by simp at hy) h
/-- A program so far, as it is read: each line but an out has a name. -/
structure PgOk (p : Pg) : Prop where
  its : ∀ m ∈ p.lns, runF m.its 0 = some 1 ∧ ∀ y ∈ m.its, ItOk y
  nms : ∀ i, (h : i < p.lns.length) → (nameB (p.lns[i]).nm = true ∨ (p.lns[i]).nm = [] ∧ i + 1 = p.lns.length)
  ins : ∀ m ∈ p.ins, nameB m.nm = true ∧ m.sd.length ≤ 4
  cnt : p.ins.length + p.lns.length ≤ 64
theorem compl_iff (p : Pg) : compl p = true ↔ ∃ (h : 0 < p.lns.length), (p.lns[p.lns.length - 1]).nm = [] := by
  unfold compl
  cases hl : p.lns.getLast? with
  | none =>
    have : p.lns = [] := List.getLast?_eq_none_iff.1 hl
    simp [this]
  | some l =>
    have hne : 0 < p.lns.length := by
      rcases Nat.eq_zero_or_pos p.lns.length with h | h
      · rw [List.length_eq_zero_iff.1 h] at hl; simp at hl
      · exact h
    rw [List.getLast?_eq_getElem?, List.getElem?_eq_getElem (by omega)] at hl
    injection hl with hl
    rw [← hl]
    simp [hne]
theorem sides_len : ∀ (us : List Tk) (l sd : List (List UInt8 × Int)), l.length ≤ 4 → sidesR us l = .ok sd → sd.length ≤ 4 := by
  intro us
  induction us with
  | nil => intro l sd hl h; rw [sidesR] at h; injection h with h; subst h; exact hl
  | cons u us ih =>
    intro l sd hl h
    rw [sidesR] at h
    split at h
    · cases h
    split at h
    · cases h
    · exact ih _ _ (by simp; omega) h
theorem addR_ok {p q : Pg} {ts : List Tk} (hp : PgOk p) (he : Ends ts) (h : addR p ts = .ok q) : PgOk q := by
  have hcnt := add_cnt h hp.cnt
  have hln : compl p = false → ∀ nm pl us, Ends us → (nameB nm = true ∨ nm = []) → addLnR p nm pl us = .ok q → PgOk q := by
    intro hc nm pl us hus hnm h1
    unfold addLnR at h1
    split at h1
    · cases h1
    · rename_i its h2
      injection h1 with h1
      subst h1
      refine ⟨fun m hm => ?_, fun i hi => ?_, hp.ins, hcnt⟩
      · simp only [List.mem_append, List.mem_singleton] at hm
        rcases hm with hm | rfl
        · exact hp.its m hm
        · exact ⟨expr_flat hus h2, expr_items h2⟩
      · simp only [List.length_append, List.length_cons, List.length_nil] at hi
        rcases Nat.lt_or_ge i p.lns.length with h3 | h3
        · simp only [List.getElem_append_left h3]
          left
          rcases hp.nms i h3 with h4 | ⟨h4, h5⟩
          · exact h4
          · exfalso
            rw [(compl_iff p).2 ⟨by omega, by rw [← h4]; congr 1; congr 1; omega⟩] at hc
            cases hc
        · obtain rfl : i = p.lns.length := by omega
          simp only [List.getElem_concat_length]
          rcases hnm with h4 | h4
          · exact .inl h4
          · exact .inr ⟨h4, by simp⟩
  unfold addR at h
  split at h
  · injection h with h; subst h; exact hp
  · rename_i f r
    split at h
    · injection h with h; subst h; exact hp
    rename_i hk
    have her : Ends r := he.resolve_left fun h => hk h.2.1
    split at h
    · cases h
    split at h
    · cases h
    split at h
    · cases h
    rename_i hc
    have hc : compl p = false := by simpa using hc
    split at h
    · unfold addInR at h
      split at h
      · cases h
      · split at h
        · injection h with h; subst h; exact hp
        · rename_i t r
          split at h
          · cases h
          · split at h
            · cases h
            · rename_i hnm
              split at h
              · cases h
              · rename_i sd h2
                injection h with h
                subst h
                refine ⟨hp.its, hp.nms, fun m hm => ?_, hcnt⟩
                simp only [List.mem_append, List.mem_singleton] at hm
                rcases hm with hm | rfl
                · exact hp.ins m hm
                · exact ⟨by simpa using hnm, sides_len _ [] _ (by simp) h2⟩
    split at h
    · exact hln hc _ _ _ her (.inr rfl) h
    split at h
    · cases h
    rename_i hnm
    split at h
    · cases h
    rename_i hcol
    refine hln hc _ _ _ ?_ (.inl (by simpa using hnm)) h
    cases r with
    | nil => exact her.elim
    | cons g r =>
      refine her.resolve_left fun h => hcol ?_
      simp [h.2.2]
theorem lines_okP : ∀ (n : Nat) (e : Int) (p q : Pg) (us : List Tk), us.length ≤ n → (∀ t ∈ us, Gd t) → (us ≠ [] → ∃ vs t, us = vs ++ [t] ∧ t.k = 4) → PgOk p → linesR e p us = .ok q → PgOk q ∧ compl q = true := by
  intro n
  induction n with
  | zero =>
    intro e p q us h _ _ hp hq
    obtain rfl : us = [] := List.length_eq_zero_iff.1 (by omega)
    rw [lines_nil] at hq
    split at hq
    · rename_i hc; injection hq with hq; subst hq; exact ⟨hp, hc⟩
    · cases hq
  | succ n ih =>
    intro e p q us h hg hf hp hq
    cases us with
    | nil =>
      rw [lines_nil] at hq
      split at hq
      · rename_i hc; injection hq with hq; subst hq; exact ⟨hp, hc⟩
      · cases hq
    | cons f r =>
      obtain ⟨vs, t, e1, e2⟩ := hf (by simp)
      have hk := find_lt (us := f :: r) (e := t) (by rw [e1]; simp) e2
      cases hx : addR p ((f :: r).take (cutAt (f :: r))) with
      | err a c => rw [lines_err hx] at hq; cases hq
      | ok p2 =>
        rw [lines_ok hx] at hq
        refine ih e p2 q _ (by simp [cutAt] at h ⊢; omega) (fun t ht => hg t (List.mem_of_mem_drop ht)) (fun hd => ?_) (addR_ok hp (ends_take hk hg) hx) hq
        rw [e1] at hd ⊢
        refine ⟨vs.drop (cutAt (vs ++ [t])), t, ?_, e2⟩
        rcases Nat.lt_or_ge (cutAt (vs ++ [t])) (vs ++ [t]).length with h5 | h5
        · rw [List.drop_append_of_le_length (by simp at h5; omega)]
        · exact (hd (List.drop_of_length_le h5)).elim
/-- What is read is a program as the document says. -/
theorem pz_flat {l : List UInt8} {q : Pg} (h : parseR l = .ok q) : PgOk q ∧ compl q = true := by
  cases hx : lexR l with
  | err a c => rw [pz_bad hx] at h; cases h
  | ok ts =>
    rw [pz_ok hx] at h
    have hg := lexR_gd hx
    refine lines_okP _ _ _ _ _ (Nat.le_refl _) (fun t ht => ?_) (fun _ => ⟨ts, _, rfl, rfl⟩) ⟨fun m hm => by simp at hm, fun i hi => by simp at hi, fun m hm => by simp at hm, by simp⟩ h
    rcases List.mem_append.1 ht with ht | ht
    · exact hg.1 t ht
    · simp at ht; subst ht; exact ⟨by simp, fun _ => rfl⟩
end Go.Proofs.YtbapgdhcbfpdoaaGreatDoor
/- Expressions in brackets, and behind others, and line by line: over plain lists. -/
namespace Go.Proofs.YtbapgdhcbfpdoaaGreatDoor
open Go.RowKit
def Plain (e : List UInt8) : Prop := ∀ c ∈ e, c.toNat ≠ 10 ∧ c.toNat ≠ 35
theorem zE_ok {x : Er} {y : List It} (h : zE x = .ok y) : ∃ l, x = .ok l ∧ l.map zI = y := by
  cases x with
  | ok l => injection h with h; exact ⟨l, rfl, h⟩
  | err a c => cases h
theorem zE_err {x : Er} {a c : Int} (h : zE x = .err a c) : ∃ a', x = .err a' c := by
  cases x with
  | ok l => cases h
  | err a' c' => injection h with _ h; subst h; exact ⟨a', rfl⟩
theorem expr_z (ts : List Tk) : zE (exprR ts) = exprR (ts.map zT) := mrun_z _ ts false [] [] (Nat.le_refl _)
theorem mv_z (d : Int) (E : List Tk) : (E.map (mv d)).map zT = E.map zT := by rw [List.map_map]; rfl
theorem z_z (E : List Tk) : (E.map zT).map zT = E.map zT := by rw [List.map_map]; rfl
def en0 : Tk := ⟨4, 0, [], 0⟩
theorem find_none {A : List Tk} (h : ∀ t ∈ A, t.k ≠ 4) (e : Tk) (he : e.k = 4) (B : List Tk) : (A ++ e :: B).findIdx isEnd = A.length := by
  rw [List.findIdx_append, if_neg, List.findIdx_cons]
  · simp [isEnd, he]
  · rw [List.findIdx_eq_length_of_false (by intro t ht; simpa [isEnd] using h t ht)]; omega
theorem cut_one {A : List Tk} (h : ∀ t ∈ A, t.k ≠ 4) {e : Tk} (he : e.k = 4) (B : List Tk) : (A ++ e :: B).take (cutAt (A ++ e :: B)) = A ++ [e] ∧ (A ++ e :: B).drop (cutAt (A ++ e :: B)) = B := by
  unfold cutAt
  rw [find_none h e he B, show A ++ e :: B = (A ++ [e]) ++ B by simp]
  exact ⟨List.take_left' (by simp), List.drop_left' (by simp)⟩
theorem lines_one {A : List Tk} (h : ∀ t ∈ A, t.k ≠ 4) {e : Tk} (he : e.k = 4) (B : List Tk) (n : Int) (p : Pg) : linesR n p (A ++ e :: B) = match addR p (A ++ [e]) with
    | .err a c => .err a c
    | .ok q => linesR n q B := by
  obtain ⟨h1, h2⟩ := cut_one h he B
  cases hx : addR p (A ++ [e]) with
  | err a c =>
    cases A with
    | nil => exact lines_err (f := e) (r := B) (by rw [← List.nil_append (e :: B), h1]; exact hx)
    | cons f A => exact lines_err (f := f) (r := A ++ e :: B) (by rw [← List.cons_append, h1]; exact hx)
  | ok q =>
    cases A with
    | nil =>
      have := lines_ok (e := n) (f := e) (r := B) (by rw [← List.nil_append (e :: B), h1]; exact hx)
      rw [← List.nil_append (e :: B), h2] at this
      exact this
    | cons f A =>
      have := lines_ok (e := n) (f := f) (r := A ++ e :: B) (by rw [← List.cons_append, h1]; exact hx)
      rw [← List.cons_append, h2] at this
      exact this
def outT (a : Int) : Tk := ⟨1, a, [111, 117, 116], 0⟩
theorem addR_cons (p : Pg) (f : Tk) (r : List Tk) : addR p (f :: r) =
    if f.k = 4 then .ok p
    else if p.ins.length + p.lns.length = 64 then .err f.a 45
    else if 256 < r.length then .err ((f :: r).getD 256 default).a 45
    else if compl p then .err f.a 40
    else if f.w = [105, 110] then addInR p f r
    else if f.w = [111, 117, 116] then addLnR p [] f.a r
    else if nameB f.w = false then .err f.a 40
    else if (r.getD 0 default).w ≠ [58] then .err (r.getD 0 default).a 42
    else addLnR p f.w f.a (r.drop 1) := rfl
theorem add_outL {R : List Tk} {a : Int} {p : Pg} (hp : compl p = false) (hn : p.ins.length + p.lns.length ≠ 64) (e : Tk) : addR p (outT a :: R ++ [e]) = if 256 < R.length + 1 then .err ((outT a :: R ++ [e]).getD 256 default).a 45 else addLnR p [] a (R ++ [e]) := by
  rw [List.cons_append, addR_cons, if_neg (show ¬ (outT a).k = 4 by show ¬ (1 : Int) = 4; decide), if_neg hn, show (R ++ [e]).length = R.length + 1 by simp]
  split
  · rfl
  · rw [hp, if_neg (by decide), if_neg (show ¬ (outT a).w = [105, 110] by show ¬ ([111, 117, 116] : List UInt8) = [105, 110]; decide), if_pos (show (outT a).w = [111, 117, 116] from rfl)]
    rfl
/-- What a text with just one line says: an out, and an expression. -/
theorem lines_out {R : List Tk} (h : ∀ t ∈ R, t.k ≠ 4) {e : Tk} (he : e.k = 4) (a n : Int) : linesR n ⟨[], []⟩ (outT a :: R ++ [e]) = if 256 < R.length + 1 then .err ((outT a :: R ++ [e]).getD 256 default).a 45 else match exprR (R ++ [e]) with
    | .err a c => .err a c
    | .ok its => .ok ⟨[], [⟨[], a, its⟩]⟩ := by
  rw [lines_one (A := outT a :: R) (fun t ht => by
    rcases List.mem_cons.1 ht with rfl | ht
    · show (1 : Int) ≠ 4; decide
    · exact h t ht) he [] n, add_outL rfl (by decide) e]
  by_cases h256 : 256 < R.length + 1
  · rw [if_pos h256, if_pos h256]
  · rw [if_neg h256, if_neg h256]
    unfold addLnR
    cases exprR (R ++ [e]) with
    | err a c => rfl
    | ok its => simp only; rw [lines_nil]; rfl
def out4 : List UInt8 := [111, 117, 116, 32]
theorem piece_out (x : List UInt8) : piece 111 (117 :: 116 :: 32 :: x) = .tok 1 [111, 117, 116] 0 2 := (piece_app (hard_bl x) [117, 116] (.inl (by decide))).trans rfl
theorem lex_out (x : List UInt8) : lexL (out4 ++ x) 0 = Rs.pre [outT 0] (lexL x 4) := by
  show lexL (111 :: 117 :: 116 :: 32 :: x) 0 = _
  rw [lex_tok (piece_out x)]
  show Rs.pre _ (lexL (32 :: x) (0 + 1 + ((2 : Nat) : Int))) = _
  rw [lex_bl]; rfl
theorem lex_at4 {x : List UInt8} {ts : List Tk} (d : Int) (h : lexL x 0 = .ok ts) : lexL x d = .ok (ts.map (mv d)) := by rw [lex_from, h]; rfl
theorem lex_at_err {x : List UInt8} {p c : Int} (d : Int) (h : lexL x 0 = .err p c) : lexL x d = .err (p + d) c := by rw [lex_from, h]; rfl
theorem mv_k {d : Int} {E : List Tk} (h : ∀ t ∈ E, t.k ≠ 4) : ∀ t ∈ E.map (mv d), t.k ≠ 4 := fun t ht => by
  obtain ⟨u, hu, rfl⟩ := List.mem_map.1 ht; exact h u hu
/-- An expression's tokens, and what is read of them. -/
structure OutOk (e : List UInt8) (its : List It) (E : List Tk) : Prop where
  lex : lexL e 0 = .ok E
  len : E.length + 1 ≤ 256
  run : mrun (E.map zT ++ [en0]) false [] [] = .ok (its.map zI)
  k4 : ∀ t ∈ E, t.k ≠ 4
  tok : ∀ t ∈ E, Tok t
theorem out_ok {e : List UInt8} (hp : Plain e) {q : Pg} (hlen : e.length ≤ 10000) (h : parseR (out4 ++ e) = .ok q) : ∃ its E, q = ⟨[], [⟨[], 0, its⟩]⟩ ∧ OutOk e its E := by
  have h0 : (out4 ++ e).length ≤ 65536 := by rw [List.length_append]; show 4 + _ ≤ _; omega
  cases hx : lexL e 0 with
  | err a c =>
    rw [pz_bad (a := a + 4) (c := c) (by unfold lexR; rw [if_neg (by omega), lex_out, lex_at_err 4 hx]; rfl)] at h
    cases h
  | ok E =>
    have hk := lex_tokS _ e 0 (Nat.le_refl _) _ hx
    have h4 := hk.2 fun c hc => (hp c hc).1
    rw [pz_ok (ts := outT 0 :: E.map (mv 4)) (by unfold lexR; rw [if_neg (by omega), lex_out, lex_at4 4 hx]; rfl)] at h
    rw [lines_out (mv_k h4) rfl] at h
    split at h
    · cases h
    · rename_i h256
      split at h
      · cases h
      · rename_i its hr
        injection h with h
        refine ⟨its, E, h.symm, hx, by simpa using h256, ?_, h4, hk.1⟩
        have hz := expr_z (E.map (mv 4) ++ [⟨4, (out4 ++ e).length, [], 0⟩])
        rw [hr, List.map_append, mv_z] at hz
        exact hz.symm
theorem name_open : nameB [40] = false := by decide
theorem mrun_open (r : List Tk) (a : Int) (l : List It) (s : List (Option It)) (hs : opens s ≠ 32) : mrun (⟨3, a, [40], 0⟩ :: r) false l s = mrun r false l (none :: s) := by
  rw [mrun_cons]
  show (if vb [40] = true then _ else _) = _
  rw [if_neg (by decide), if_pos rfl, if_neg (show ¬ (3 : Int) = 2 by decide)]
  show (if nameB [40] = true then _ else _) = _
  rw [if_neg (by decide), if_pos rfl, if_neg hs]
theorem mrun_close (r : List Tk) (a : Int) (l : List It) (s : List (Option It)) (hs : 0 < opens s) : mrun (⟨3, a, [41], 0⟩ :: r) true l s = mrun r true (settleL l s).1 (settleL l s).2 := by
  rw [mrun_cons]
  show (if vb [41] = true then _ else _) = _
  rw [if_neg (by decide), if_neg (by decide), if_neg (show ¬ (3 : Int) = 4 by decide), if_pos ⟨rfl, hs⟩]
theorem mrun_end (a : Int) (r : List Tk) (l : List It) (s : List (Option It)) (hs : opens s = 0) : mrun (⟨4, a, [], 0⟩ :: r) true l s = .ok (settleL l s).1 := by
  rw [mrun_cons]
  show (if vb [] = true then _ else _) = _
  rw [if_neg (by decide), if_neg (by decide), if_pos rfl, if_neg (by omega)]
def cl0 : Tk := ⟨3, 0, [41], 0⟩
def op0 : Tk := ⟨3, 0, [40], 0⟩
theorem cl_closes : closes cl0 := ⟨by decide, .inr rfl⟩
/-- In brackets. -/
theorem mrun_br {e : List UInt8} {its : List It} {E : List Tk} (h : OutOk e its E) (rest : List Tk) : (∃ a, mrun (op0 :: (E.map zT ++ cl0 :: rest)) false [] [] = .err a 44) ∨ mrun (op0 :: (E.map zT ++ cl0 :: rest)) false [] [] = mrun rest true (its.map zI) [] := by
  rw [show op0 = ⟨3, 0, [40], 0⟩ from rfl, mrun_open _ _ _ _ (by decide)]
  have hk : ∀ t ∈ E.map zT, t.k ≠ 4 := fun t ht => by obtain ⟨u, hu, rfl⟩ := List.mem_map.1 ht; exact h.k4 u hu
  rcases mrun_in _ (E.map zT) false [] [] en0 cl0 rest [] [none] (its.map zI) (Nat.le_refl _) ⟨rfl, rfl⟩ cl_closes ⟨by decide, by decide, by decide⟩ (by decide) hk h.run with ⟨h1, _⟩ | h1
  · left; exact h1
  · right
    rw [show ([] : List It) ++ [] = [] from rfl, show ([] : List (Option It)) ++ [none] = [none] from rfl] at h1
    rw [h1, show cl0 = ⟨3, 0, [41], 0⟩ from rfl, mrun_close _ _ _ _ (by decide)]
    rfl
theorem brackets {e : List UInt8} {its : List It} {E : List Tk} (hp : Plain e) (hlen : e.length ≤ 10000) (h : OutOk e its E) :
    (∃ a c, parseR (out4 ++ 40 :: (e ++ [41])) = .err a c ∧ (c = 44 ∨ c = 45)) ∨ ∃ l, parseR (out4 ++ 40 :: (e ++ [41])) = .ok ⟨[], [⟨[], 0, l⟩]⟩ ∧ l.map zI = its.map zI := by
  have h0 : (out4 ++ 40 :: (e ++ [41])).length ≤ 65536 := by simp [out4]; omega
  have hlx : lexL (e ++ [41]) 5 = .ok (E.map (mv 5) ++ [⟨3, 5 + e.length, [41], 0⟩]) := by
    rw [lex_beh _ e 5 [41] (Nat.le_refl _) (hard_cl []) (.inr fun c hc => (hp c hc).2), lex_at4 5 h.lex, lex_sgn piece_close, lex_nil]; rfl
  rw [pz_ok (ts := outT 0 :: ⟨3, 4, [40], 0⟩ :: (E.map (mv 5) ++ [⟨3, 5 + e.length, [41], 0⟩])) (by
    unfold lexR; rw [if_neg (by omega), lex_out, lex_sgn piece_open, show (4 : Int) + 1 = 5 from rfl, hlx]; rfl)]
  have hr := lines_out (R := ⟨3, 4, [40], 0⟩ :: (E.map (mv 5) ++ [⟨3, 5 + e.length, [41], 0⟩])) (e := ⟨4, (out4 ++ 40 :: (e ++ [41])).length, [], 0⟩) (fun t ht => by
    simp only [List.mem_cons, List.mem_append, List.not_mem_nil, or_false] at ht
    rcases ht with rfl | ht | rfl
    · show (3 : Int) ≠ 4; decide
    · exact mv_k h.k4 t ht
    · show (3 : Int) ≠ 4; decide) rfl 0 (out4 ++ 40 :: (e ++ [41])).length
  rw [hr]
  split
  · exact .inl ⟨_, _, rfl, .inr rfl⟩
  · have hz := expr_z ((⟨3, 4, [40], 0⟩ : Tk) :: (E.map (mv 5) ++ [(⟨3, 5 + e.length, [41], 0⟩ : Tk)]) ++ [(⟨4, (out4 ++ 40 :: (e ++ [41])).length, [], 0⟩ : Tk)])
    have hm : ((⟨3, 4, [40], 0⟩ : Tk) :: (E.map (mv 5) ++ [(⟨3, 5 + e.length, [41], 0⟩ : Tk)]) ++ [(⟨4, (out4 ++ 40 :: (e ++ [41])).length, [], 0⟩ : Tk)]).map zT = op0 :: (E.map zT ++ cl0 :: [en0]) := by
      rw [List.cons_append, List.map_cons, List.map_append, List.map_append, mv_z]; simp; exact ⟨rfl, rfl, rfl⟩
    rw [hm] at hz
    rcases mrun_br h [en0] with ⟨a, h1⟩ | h1
    · obtain ⟨a', h2⟩ := zE_err (hz.trans h1)
      rw [h2]
      exact .inl ⟨_, _, rfl, .inl rfl⟩
    · rw [show en0 = ⟨4, 0, [], 0⟩ from rfl, mrun_end _ _ _ _ rfl] at h1
      obtain ⟨l, h2, h3⟩ := zE_ok (hz.trans h1)
      rw [h2]
      exact .inr ⟨l, rfl, h3⟩
/-! ### a verb between -/
theorem first_ok {t : Tk} {r : List Tk} {x : List It} (ht : Tok t) (h : mrun (t :: r) false [] [] = .ok x) : t.w ≠ [47] ∧ t.w ≠ [92] ∧ t.w ≠ [46] := by
  have hb : ∀ w : List UInt8, (w = [47] ∨ w = [92] ∨ w = [46]) → vb w = false ∧ nameB w = false ∧ w ≠ [40] ∧ w ≠ [] := by
    rintro w (rfl | rfl | rfl) <;> decide
  have hno : ¬ (t.w = [47] ∨ t.w = [92] ∨ t.w = [46]) := fun hw => by
    obtain ⟨h1, h2, h3, h4⟩ := hb _ hw
    rw [mrun_cons, h1, if_neg (by decide), if_pos rfl, if_neg (fun hk => h4 (ht.2.2.1 hk)), h2, if_neg (by decide), if_neg h3] at h
    split at h <;> cases h
  exact ⟨fun e => hno (.inl e), fun e => hno (.inr (.inl e)), fun e => hno (.inr (.inr e))⟩
def mx0 : Tk := ⟨1, 0, [109, 97, 120], 0⟩
def mxI : It := ⟨4, 0, 7, [], []⟩
theorem mrun_max {e : List UInt8} {its : List It} {E : List Tk} (h : OutOk e its E) (l : List It) : mrun (mx0 :: (E.map zT ++ [en0])) true l [] = .ok (l ++ its.map zI ++ [mxI]) := by
  have hne : E ≠ [] := fun hE => by
    have := h.run
    rw [hE, List.map_nil, List.nil_append, mrun_cons] at this
    change (if vb [] = true then _ else if false = false then (if (4 : Int) = 2 then _ else if nameB [] = true then _ else if ([] : List UInt8) = [40] then _ else if (4 : Int) = 1 then Er.err 0 41 else Er.err 0 42) else _) = _ at this
    rw [if_neg (by decide), if_pos rfl, if_neg (by decide), if_neg (by decide), if_neg (by decide), if_neg (by decide)] at this
    cases this
  obtain ⟨t, r, rfl⟩ := List.exists_cons_of_ne_nil hne
  have ht := h.tok t (by simp)
  have hf : (zT t).w ≠ [47] ∧ (zT t).w ≠ [92] ∧ (zT t).w ≠ [46] := first_ok (r := r.map zT ++ [en0]) (t := zT t) (x := its.map zI) ht h.run
  have hmk : mk ((t :: r).map zT ++ [en0]) = ([], (t :: r).map zT ++ [en0]) := by
    rw [List.map_cons, List.cons_append]
    simp only [mk]
    rw [if_neg (by rintro (h | h | h); exact hf.1 h; exact hf.2.1 h; exact hf.2.2 h)]
  rw [mrun_cons, hmk]
  show (if vb [109, 97, 120] = true then (if (phR [109, 97, 120] true []).2 = 0 then _ else _) else _) = _
  rw [if_pos (by decide), if_neg (by decide)]
  show mrun _ false l [some ⟨(phR [109, 97, 120] true []).1, 0, (phR [109, 97, 120] true []).2, [], []⟩] = _
  rw [show (phR [109, 97, 120] true []) = (4, 7) by decide]
  have hk : ∀ u ∈ (t :: r).map zT, u.k ≠ 4 := fun u hu => by obtain ⟨v, hv, rfl⟩ := List.mem_map.1 hu; exact h.k4 v hv
  rcases mrun_in _ ((t :: r).map zT) false [] [] en0 en0 [] l [some mxI] (its.map zI) (Nat.le_refl _) ⟨rfl, rfl⟩ ⟨by decide, .inl rfl⟩ ⟨by decide, by decide, by decide⟩ (by decide) hk h.run with ⟨_, h1⟩ | h1
  · exact absurd h1 (by decide)
  · rw [List.append_nil, List.nil_append] at h1
    refine Eq.trans h1 ?_
    rw [show en0 = ⟨4, 0, [], 0⟩ from rfl, mrun_end _ _ _ _ rfl]
    rfl
theorem piece_max (x : List UInt8) : piece 109 (97 :: 120 :: 32 :: x) = .tok 1 [109, 97, 120] 0 2 := (piece_app (hard_bl x) [97, 120] (.inl (by decide))).trans rfl
theorem lex_max (x : List UInt8) (a : Int) : lexL (109 :: 97 :: 120 :: 32 :: x) a = Rs.pre [⟨1, a, [109, 97, 120], 0⟩] (lexL x (a + 4)) := by
  rw [lex_tok (piece_max x)]
  show Rs.pre _ (lexL (32 :: x) (a + 1 + ((2 : Nat) : Int))) = _
  rw [lex_bl, show a + 1 + ((2 : Nat) : Int) + 1 = a + 4 by omega]
theorem rights {a b : List UInt8} {ia ib : List It} {A B : List Tk} (pa : Plain a) (la : a.length ≤ 10000) (lb : b.length ≤ 10000) (ha : OutOk a ia A) (hb : OutOk b ib B) :
    (∃ p c, parseR (out4 ++ 40 :: (a ++ 41 :: 109 :: 97 :: 120 :: 32 :: b)) = .err p c ∧ (c = 44 ∨ c = 45)) ∨ ∃ l, parseR (out4 ++ 40 :: (a ++ 41 :: 109 :: 97 :: 120 :: 32 :: b)) = .ok ⟨[], [⟨[], 0, l⟩]⟩ ∧ l.map zI = ia.map zI ++ ib.map zI ++ [mxI] := by
  obtain ⟨n, hn⟩ : ∃ n, n = (out4 ++ 40 :: (a ++ 41 :: 109 :: 97 :: 120 :: 32 :: b)).length := ⟨_, rfl⟩
  have h0 : (out4 ++ 40 :: (a ++ 41 :: 109 :: 97 :: 120 :: 32 :: b)).length ≤ 65536 := by simp [out4]; omega
  obtain ⟨R, hR⟩ : ∃ R : List Tk, R = ⟨3, 4, [40], 0⟩ :: (A.map (mv 5) ++ ⟨3, 5 + a.length, [41], 0⟩ :: ⟨1, 5 + a.length + 1, [109, 97, 120], 0⟩ :: B.map (mv (5 + a.length + 1 + 4))) := ⟨_, rfl⟩
  have hlx : lexL (a ++ 41 :: 109 :: 97 :: 120 :: 32 :: b) 5 = .ok (A.map (mv 5) ++ ⟨3, 5 + a.length, [41], 0⟩ :: ⟨1, 5 + a.length + 1, [109, 97, 120], 0⟩ :: B.map (mv (5 + a.length + 1 + 4))) := by
    rw [lex_beh _ a 5 _ (Nat.le_refl _) (hard_cl _) (.inr fun c hc => (pa c hc).2), lex_at4 5 ha.lex, lex_sgn piece_close, lex_max, lex_at4 _ hb.lex]; rfl
  have hk : ∀ t ∈ R, t.k ≠ 4 := fun t ht => by
    rw [hR] at ht
    simp only [List.mem_cons, List.mem_append] at ht
    rcases ht with rfl | ht | rfl | rfl | ht
    · show (3 : Int) ≠ 4; decide
    · exact mv_k ha.k4 t ht
    · show (3 : Int) ≠ 4; decide
    · show (1 : Int) ≠ 4; decide
    · exact mv_k hb.k4 t ht
  rw [pz_ok (ts := outT 0 :: R) (by
    unfold lexR; rw [if_neg (by omega), lex_out, lex_sgn piece_open, show (4 : Int) + 1 = 5 from rfl, hlx, hR]; rfl)]
  rw [← hn]
  have hr := lines_out (R := R) (e := ⟨4, n, [], 0⟩) hk rfl 0 n
  rw [hr]
  split
  · exact .inl ⟨_, _, rfl, .inr rfl⟩
  · have hz := expr_z (R ++ [⟨4, n, [], 0⟩])
    have hm : (R ++ [(⟨4, n, [], 0⟩ : Tk)]).map zT = op0 :: (A.map zT ++ cl0 :: (mx0 :: (B.map zT ++ [en0]))) := by
      rw [hR, List.cons_append, List.map_cons, List.map_append, List.map_append, mv_z, List.map_cons, List.map_cons, mv_z]; simp; exact ⟨rfl, rfl, rfl, rfl⟩
    rw [hm] at hz
    rcases mrun_br ha (mx0 :: (B.map zT ++ [en0])) with ⟨p, h1⟩ | h1
    · obtain ⟨a', h2⟩ := zE_err (hz.trans h1)
      rw [h2]
      exact .inl ⟨_, _, rfl, .inl rfl⟩
    · rw [mrun_max hb] at h1
      obtain ⟨l, h2, h3⟩ := zE_ok (hz.trans h1)
      rw [h2]
      exact .inr ⟨l, rfl, h3⟩
end Go.Proofs.YtbapgdhcbfpdoaaGreatDoor
/- Expressions, line by line: over plain lists. -/
namespace Go.Proofs.YtbapgdhcbfpdoaaGreatDoor
open Go.RowKit
def lineT (e : List UInt8) : List UInt8 := 97 :: 32 :: 58 :: 32 :: (e ++ [10])
def textOf (Ls : List (List UInt8 × List It)) : List UInt8 := Ls.flatMap fun x => lineT x.1
def aT (a : Int) : Tk := ⟨1, a, [97], 0⟩
theorem piece_a (x : List UInt8) (hx : hard x) : piece 97 x = .tok 1 [97] 0 0 := (piece_app hx [] (.inl (by decide))).trans rfl
theorem hard_nil : hard [] := ⟨fun c hc => by simp at hc, fun c hc => by simp at hc, by simp⟩
theorem lex_line {e : List UInt8} {E : List Tk} (h : lexL e 0 = .ok E) (x : List UInt8) (a : Int) :
    lexL (lineT e ++ x) a = Rs.pre (aT a :: ⟨3, a + 2, [58], 0⟩ :: (E.map (mv (a + 4)) ++ [⟨4, a + 4 + e.length, [], 0⟩])) (lexL x (a + (lineT e).length)) := by
  have h1 : lineT e ++ x = 97 :: 32 :: 58 :: 32 :: (e ++ 10 :: x) := by simp [lineT]
  rw [h1, lex_tok (piece_a _ (hard_bl _)), List.drop_zero]
  rw [lex_bl, lex_sgn piece_colon, lex_bl, lex_beh _ e _ (10 :: x) (Nat.le_refl _) (hard_nl x).1 (.inl (hard_nl x).2), lex_nl]
  rw [show a + 1 + ((0 : Nat) : Int) + 1 + 1 + 1 = a + 4 by omega, lex_at4 _ h]
  show Rs.pre _ (Rs.pre _ (Rs.pre _ (Rs.pre _ _))) = _
  rw [pre_pre, pre_pre, pre_pre]
  rw [show a + 4 + (e.length : Int) + 1 = a + ((lineT e).length : Nat) by simp [lineT]; omega, show a + 1 + ((0 : Nat) : Int) + 1 = a + 2 by omega]
  simp [aT]
/-- A line with a name, whose expression is read. -/
theorem add_line {e : List UInt8} {its : List It} {E : List Tk} (h : OutOk e its E) (d a b c : Int) {p : Pg} (hc : compl p = false) (hi : p.ins = []) (hn : p.lns.length ≠ 64) :
    (∃ x, addR p (aT a :: ⟨3, b, [58], 0⟩ :: (E.map (mv d)) ++ [⟨4, c, [], 0⟩]) = .err x 45) ∨ ∃ l, addR p (aT a :: ⟨3, b, [58], 0⟩ :: (E.map (mv d)) ++ [⟨4, c, [], 0⟩]) = .ok ⟨[], p.lns ++ [⟨[97], a, l⟩]⟩ ∧ l.map zI = its.map zI := by
  rw [List.cons_append, List.cons_append, addR_cons, if_neg (show ¬ (aT a).k = 4 by show ¬ (1 : Int) = 4; decide), if_neg (by rw [hi]; simpa using hn)]
  by_cases h256 : 256 < ((⟨3, b, [58], 0⟩ : Tk) :: (E.map (mv d) ++ [⟨4, c, [], 0⟩])).length
  · rw [if_pos h256]; exact .inl ⟨_, rfl⟩
  · right
    rw [if_neg h256, hc, if_neg (by decide), if_neg (show ¬ (aT a).w = [105, 110] by show ¬ ([97] : List UInt8) = [105, 110]; decide), if_neg (show ¬ (aT a).w = [111, 117, 116] by show ¬ ([97] : List UInt8) = [111, 117, 116]; decide),
      if_neg (show ¬ nameB (aT a).w = false by show ¬ nameB [97] = false; decide), if_neg (show ¬ (((⟨3, b, [58], 0⟩ : Tk) :: (E.map (mv d) ++ [⟨4, c, [], 0⟩])).getD 0 default).w ≠ [58] by show ¬ ([58] : List UInt8) ≠ [58]; simp)]
    show ∃ l, addLnR p [97] a (E.map (mv d) ++ [⟨4, c, [], 0⟩]) = _ ∧ _
    have hz := expr_z (E.map (mv d) ++ [⟨4, c, [], 0⟩])
    rw [List.map_append, mv_z] at hz
    obtain ⟨l, h1, h2⟩ := zE_ok (hz.trans h.run)
    unfold addLnR
    rw [h1, hi]
    exact ⟨l, rfl, h2⟩
theorem compl_a (l : List Ln) (a : Int) (x : List It) : compl ⟨[], l ++ [⟨[97], a, x⟩]⟩ = false := by simp [compl]
theorem lines_text : ∀ (Ls : List (List UInt8 × List It)), (∀ x ∈ Ls, ∃ E, OutOk x.1 x.2 E) → ∀ (rest : List UInt8) (a : Int), ∃ TS, lexL (textOf Ls ++ rest) a = Rs.pre TS (lexL rest (a + (textOf Ls).length)) ∧
    ∀ (n : Int) (p : Pg) (B : List Tk), compl p = false → p.ins = [] → p.lns.length + Ls.length ≤ 63 →
      (∃ x, linesR n p (TS ++ B) = .err x 45) ∨ ∃ news : List Ln, linesR n p (TS ++ B) = linesR n ⟨[], p.lns ++ news⟩ B ∧ compl ⟨[], p.lns ++ news⟩ = false ∧ news.map (fun m => (m.nm, m.its.map zI)) = Ls.map (fun x => ([97], x.2.map zI)) := by
  intro Ls
  induction Ls with
  | nil =>
    intro _ rest a
    refine ⟨[], by simp [textOf, pre_nil], fun n p B hc hi _ => .inr ⟨[], ?_, ?_, rfl⟩⟩
    · rw [List.append_nil, List.nil_append]; cases p; simp at hi; rw [hi]
    · rw [List.append_nil]; cases p; simp at hi; rw [← hc, hi]
  | cons x Ls ih =>
    intro hall rest a
    obtain ⟨E, hE⟩ := hall x (by simp)
    obtain ⟨TS, h1, h2⟩ := ih (fun y hy => hall y (by simp [hy])) rest (a + (lineT x.1).length)
    refine ⟨(aT a :: ⟨3, a + 2, [58], 0⟩ :: (E.map (mv (a + 4)) ++ [⟨4, a + 4 + x.1.length, [], 0⟩])) ++ TS, ?_, fun n p B hc hi hn => ?_⟩
    · rw [show textOf (x :: Ls) = lineT x.1 ++ textOf Ls from List.flatMap_cons, List.append_assoc, lex_line hE.lex, h1, pre_pre]
      congr 2
      rw [List.length_append]; omega
    · have hone := lines_one (A := aT a :: ⟨3, a + 2, [58], 0⟩ :: E.map (mv (a + 4))) (fun t ht => by
        simp only [List.mem_cons] at ht
        rcases ht with rfl | rfl | ht
        · show (1 : Int) ≠ 4; decide
        · show (3 : Int) ≠ 4; decide
        · exact mv_k hE.k4 t ht) (e := ⟨4, a + 4 + x.1.length, [], 0⟩) rfl (TS ++ B) n p
      have hsh : (aT a :: ⟨3, a + 2, [58], 0⟩ :: (E.map (mv (a + 4)) ++ [⟨4, a + 4 + x.1.length, [], 0⟩])) ++ TS ++ B = aT a :: ⟨3, a + 2, [58], 0⟩ :: E.map (mv (a + 4)) ++ ⟨4, a + 4 + x.1.length, [], 0⟩ :: (TS ++ B) := by simp
      rw [hsh, hone]
      rcases add_line hE (a + 4) a (a + 2) (a + 4 + x.1.length) hc hi (by simp at hn; omega) with ⟨y, hy⟩ | ⟨l, hl, hz⟩
      · rw [hy]; exact .inl ⟨y, rfl⟩
      · rw [hl]
        simp only
        rcases h2 n ⟨[], p.lns ++ [⟨[97], a, l⟩]⟩ B (compl_a _ _ _) rfl (by simp at hn ⊢; omega) with ⟨y, hy⟩ | ⟨news, h3, h4, h5⟩
        · exact .inl ⟨y, hy⟩
        · right
          refine ⟨⟨[97], a, l⟩ :: news, ?_, ?_, ?_⟩
          · rw [h3]; simp
          · rw [← h4]; simp
          · rw [List.map_cons, List.map_cons, h5, hz]
def outA : List UInt8 := [111, 117, 116, 32, 97]
theorem lex_outA (a : Int) : lexL outA a = .ok [outT a, aT (a + 4)] := by
  show lexL (111 :: 117 :: 116 :: 32 :: [97]) a = _
  rw [lex_tok (piece_out [97])]
  show Rs.pre _ (lexL (32 :: [97]) (a + 1 + ((2 : Nat) : Int))) = _
  rw [lex_bl, lex_tok (piece_a [] hard_nil), List.drop_zero, lex_nil]
  simp [Rs.pre, aT, outT]; omega
theorem expr_a (a b : Int) : exprR [aT a, ⟨4, b, [], 0⟩] = .ok [⟨2, a, 0, [97], []⟩] := by
  unfold exprR
  rw [mrun_cons]
  show (if vb [97] = true then _ else if false = false then (if (1 : Int) = 2 then _ else if nameB [97] = true then _ else _) else _) = _
  rw [if_neg (by decide), if_pos rfl, if_neg (by decide), if_pos (by decide), mrun_end _ _ _ _ rfl]
  rfl
/-- All lines, and an out behind them. -/
theorem lines_all {Ls : List (List UInt8 × List It)} (h60 : Ls.length ≤ 60) (hall : ∀ x ∈ Ls, x.1.length ≤ 1000 ∧ ∃ E, OutOk x.1 x.2 E) :
    (∃ x, parseR (textOf Ls ++ outA) = .err x 45) ∨ ∃ q, parseR (textOf Ls ++ outA) = .ok q ∧ q.lns.length = Ls.length + 1 ∧ ∀ i, i < Ls.length → (q.lns.getD i default).nm = [97] ∧ (q.lns.getD i default).its.map zI = (Ls.getD i default).2.map zI := by
  have hlen : ∀ L : List (List UInt8 × List It), (∀ x ∈ L, x.1.length ≤ 1000) → (textOf L).length ≤ L.length * 1005 := by
    intro L
    induction L with
    | nil => intro _; simp [textOf]
    | cons x L ih =>
      intro h
      have h1 := ih fun y hy => h y (by simp [hy])
      have h2 := h x (by simp)
      rw [show textOf (x :: L) = lineT x.1 ++ textOf L from List.flatMap_cons, List.length_append]
      have h3 : (lineT x.1).length = x.1.length + 5 := by simp [lineT]
      simp only [List.length_cons]
      omega
  have h0 := hlen Ls fun x hx => (hall x hx).1
  have h1 : (textOf Ls ++ outA).length ≤ 65536 := by rw [List.length_append]; show _ + 5 ≤ _; omega
  obtain ⟨TS, h2, h3⟩ := lines_text Ls (fun x hx => (hall x hx).2) outA 0
  rw [lex_outA] at h2
  rw [pz_ok (ts := TS ++ [outT (0 + (textOf Ls).length), aT (0 + (textOf Ls).length + 4)]) (by unfold lexR; rw [if_neg (by omega), h2]; rfl), List.append_assoc]
  rcases h3 (textOf Ls ++ outA).length ⟨[], []⟩ ([outT (0 + (textOf Ls).length), aT (0 + (textOf Ls).length + 4)] ++ [⟨4, (textOf Ls ++ outA).length, [], 0⟩]) rfl rfl (by simp; omega) with ⟨x, h4⟩ | ⟨news, h4, h5, h6⟩
  · exact .inl ⟨x, h4⟩
  · right
    rw [h4]
    have hnl : news.length = Ls.length := by have := congrArg List.length h6; simpa using this
    have hone := lines_one (A := [outT (0 + (textOf Ls).length), aT (0 + (textOf Ls).length + 4)]) (fun t ht => by
      simp at ht
      rcases ht with rfl | rfl
      · show (1 : Int) ≠ 4; decide
      · show (1 : Int) ≠ 4; decide) (e := ⟨4, (textOf Ls ++ outA).length, [], 0⟩) rfl [] (textOf Ls ++ outA).length ⟨[], news⟩
    have hadd := add_outL (R := [aT (0 + (textOf Ls).length + 4)]) (a := 0 + (textOf Ls).length) (p := ⟨[], news⟩) (by simpa using h5) (by simp; omega) ⟨4, (textOf Ls ++ outA).length, [], 0⟩
    have e1 : [outT (0 + ((textOf Ls).length : Int)), aT (0 + (textOf Ls).length + 4)] ++ [(⟨4, (textOf Ls ++ outA).length, [], 0⟩ : Tk)] = outT (0 + (textOf Ls).length) :: [aT (0 + (textOf Ls).length + 4)] ++ [⟨4, (textOf Ls ++ outA).length, [], 0⟩] := rfl
    rw [← e1, if_neg (by simp)] at hadd
    unfold addLnR at hadd
    have e2 : [aT (0 + ((textOf Ls).length : Int) + 4)] ++ [(⟨4, (textOf Ls ++ outA).length, [], 0⟩ : Tk)] = [aT (0 + (textOf Ls).length + 4), ⟨4, (textOf Ls ++ outA).length, [], 0⟩] := rfl
    rw [e2, expr_a] at hadd
    simp only at hadd
    rw [List.nil_append]
    rw [hone, hadd]
    simp only
    rw [lines_nil, if_pos (by simp [compl])]
    refine ⟨_, rfl, by simp [hnl], fun i hi => ?_⟩
    have hin : i < news.length := by omega
    have e3 : (news ++ [(⟨[], 0 + ((textOf Ls).length : Int), [⟨2, 0 + (textOf Ls).length + 4, 0, [97], []⟩]⟩ : Ln)]).getD i default = news[i] := by
      rw [List.getD_eq_getElem?_getD, List.getElem?_append_left hin, List.getElem?_eq_getElem hin]; rfl
    have e4 : Ls.getD i default = Ls[i] := by rw [List.getD_eq_getElem?_getD, List.getElem?_eq_getElem hi]; rfl
    simp only [e3, e4]
    have h7 := congrArg (·[i]?) h6
    simp only [List.getElem?_map, List.getElem?_eq_getElem hin, List.getElem?_eq_getElem hi, Option.map_some, Option.some.injEq, Prod.mk.injEq] at h7
    exact h7
end Go.Proofs.YtbapgdhcbfpdoaaGreatDoor
/- Empty lines, blanks and notes change nothing but places: over plain lists. -/
namespace Go.Proofs.YtbapgdhcbfpdoaaGreatDoor
open Go.RowKit
def zL (m : Ln) : Ln := ⟨m.nm, 0, m.its.map zI⟩
def zN (m : Inp) : Inp := { m with pl := 0 }
def zP (p : Pg) : Pg := ⟨p.ins.map zN, p.lns.map zL⟩
def zR : Pr → Pr
  | .ok p => .ok (zP p)
  | .err _ e => .err 0 e
theorem compl_z (p : Pg) : compl (zP p) = compl p := by
  unfold compl zP
  rw [List.getLast?_map]
  cases p.lns.getLast? with
  | none => rfl
  | some l => rfl
theorem zI_zI (l : List It) : (l.map zI).map zI = l.map zI := by rw [List.map_map]; rfl
theorem zL_zL (m : Ln) : zL m = zL (zL m) := by unfold zL; simp only [zI_zI]
theorem addLn_z (p : Pg) (nm : List UInt8) (pl : Int) (ts : List Tk) : zR (addLnR p nm pl ts) = zR (addLnR (zP p) nm 0 (ts.map zT)) := by
  have h := expr_z ts
  unfold addLnR
  cases hx : exprR ts with
  | err a e => rw [hx] at h; rw [← h]; rfl
  | ok l =>
    rw [hx] at h
    rw [← h]
    simp only [zR, zE, zP, Pr.ok.injEq, Pg.mk.injEq, List.map_map, List.map_append, List.map_cons, List.map_nil]
    refine ⟨rfl, ?_⟩
    rw [show zL ⟨nm, 0, l.map zI⟩ = zL ⟨nm, pl, l⟩ by unfold zL; simp only [zI_zI]]
    congr 1
    exact List.map_congr_left fun m _ => zL_zL m
theorem sides_z : ∀ (us : List Tk) (l : List (List UInt8 × Int)), (∃ a e, sidesR us l = .err a e ∧ sidesR (us.map zT) l = .err 0 e) ∨ ∃ x, sidesR us l = .ok x ∧ sidesR (us.map zT) l = .ok x
  | [], l => .inr ⟨l, rfl, rfl⟩
  | u :: us, l => by
    rw [List.map_cons, sidesR, sidesR]
    show (∃ a e, _ ∧ (if u.k ≠ 2 ∧ nameB u.w = false then Sr.err 0 41 else if l.length = 4 then Sr.err 0 45 else sidesR (us.map zT) (l ++ [(u.w, u.n)])) = _) ∨ ∃ x, _ ∧ (if u.k ≠ 2 ∧ nameB u.w = false then Sr.err 0 41 else if l.length = 4 then Sr.err 0 45 else sidesR (us.map zT) (l ++ [(u.w, u.n)])) = _
    split
    · exact .inl ⟨_, _, rfl, rfl⟩
    · split
      · exact .inl ⟨_, _, rfl, rfl⟩
      · exact sides_z us _
theorem addIn_z (p : Pg) (f : Tk) (r : List Tk) : zR (addInR p f r) = zR (addInR (zP p) (zT f) (r.map zT)) := by
  unfold addInR
  have hl : (zP p).lns.length = p.lns.length := by simp [zP]
  rw [hl]
  split
  · rfl
  · cases r with
    | nil => simp [zR, zP, List.map_map]; exact ⟨fun _ _ => rfl, fun m _ => zL_zL m⟩
    | cons t r =>
      simp only [List.map_cons]
      show zR (if t.k = 4 then _ else if nameB t.w = false then _ else _) = zR (if t.k = 4 then Pr.err 0 42 else if nameB t.w = false then Pr.err 0 41 else match sidesR (r.map zT).dropLast [] with
        | .err a e => .err a e
        | .ok sd => .ok ⟨(zP p).ins ++ [⟨t.w, 0, sd⟩], (zP p).lns⟩)
      split
      · rfl
      · split
        · rfl
        · rw [← List.map_dropLast]
          rcases sides_z r.dropLast [] with ⟨a, e, h1, h2⟩ | ⟨x, h1, h2⟩
          · rw [h1, h2]; rfl
          · rw [h1, h2]
            simp [zR, zP, List.map_map]
            exact ⟨⟨fun _ _ => rfl, rfl⟩, fun m _ => zL_zL m⟩
theorem getD_z (l : List Tk) (i : Nat) : (l.map zT).getD i default = zT (l.getD i default) := by
  rw [List.getD_eq_getElem?_getD, List.getD_eq_getElem?_getD, List.getElem?_map]
  cases l[i]? with
  | none => rfl
  | some t => rfl
theorem add_z (p : Pg) (ts : List Tk) : zR (addR p ts) = zR (addR (zP p) (ts.map zT)) := by
  have hid : zR (.ok p) = zR (.ok (zP p)) := by
    simp [zR, zP, List.map_map]; exact ⟨fun _ _ => rfl, fun m _ => zL_zL m⟩
  cases ts with
  | nil => exact hid
  | cons f r =>
    rw [List.map_cons, addR_cons, addR_cons]
    have hl : (zP p).ins.length + (zP p).lns.length = p.ins.length + p.lns.length := by simp [zP]
    rw [hl, compl_z, List.length_map, getD_z]
    show _ = zR (if f.k = 4 then Pr.ok (zP p) else if p.ins.length + p.lns.length = 64 then Pr.err 0 45 else if 256 < r.length then Pr.err ((zT f :: r.map zT).getD 256 default).a 45 else if compl p = true then Pr.err 0 40
      else if f.w = [105, 110] then addInR (zP p) (zT f) (r.map zT) else if f.w = [111, 117, 116] then addLnR (zP p) [] 0 (r.map zT) else if nameB f.w = false then Pr.err 0 40 else if (r.getD 0 default).w ≠ [58] then Pr.err 0 42 else addLnR (zP p) f.w 0 ((r.map zT).drop 1))
    split
    · exact hid
    split
    · rfl
    split
    · rfl
    split
    · rfl
    split
    · exact addIn_z p f r
    split
    · exact addLn_z p [] f.a r
    split
    · rfl
    split
    · rfl
    rw [← List.map_drop]
    exact addLn_z p f.w f.a (r.drop 1)
theorem add_alike {p q : Pg} {ts us : List Tk} (hp : zP p = zP q) (ht : ts.map zT = us.map zT) : zR (addR p ts) = zR (addR q us) := by rw [add_z p ts, add_z q us, hp, ht]
theorem zR_ok {x : Pr} {p : Pg} (h : zR x = .ok p) : ∃ q, x = .ok q ∧ zP q = p := by
  cases x with
  | ok q => injection h with h; exact ⟨q, rfl, h⟩
  | err a e => cases h
/-- Tokens with lines' ends more. -/
inductive Lk : List Tk → List Tk → Prop where
  | last {A B : List Tk} (h : A.map zT = B.map zT) (h4 : ∀ t ∈ A, t.k ≠ 4) : Lk A B
  | line {A B ts us : List Tk} {a b c d : Int} (h : A.map zT = B.map zT) (h4 : ∀ t ∈ A, t.k ≠ 4) (hr : Lk ts us) : Lk (A ++ ⟨4, a, [], 0⟩ :: ts) (B ++ ⟨4, b, [], 0⟩ :: ⟨4, c, [], 0⟩ :: ⟨4, d, [], 0⟩ :: us)
theorem no4_z {A B : List Tk} (h : A.map zT = B.map zT) (h4 : ∀ t ∈ A, t.k ≠ 4) : ∀ t ∈ B, t.k ≠ 4 := fun t ht => by
  have h1 : zT t ∈ A.map zT := by rw [h]; exact List.mem_map_of_mem ht
  obtain ⟨u, hu, e⟩ := List.mem_map.1 h1
  have h2 := h4 u hu
  have h3 : u.k = t.k := (congrArg (fun x : Tk => x.k) e : (zT u).k = (zT t).k)
  omega
theorem lines_skip (n : Int) (p : Pg) (a : Int) (B : List Tk) : linesR n p (⟨4, a, [], 0⟩ :: B) = linesR n p B := by
  have h := lines_one (A := []) (fun t ht => by simp at ht) (e := ⟨4, a, [], 0⟩) rfl B n p
  rw [List.nil_append] at h
  rw [h]
  rfl
theorem lk_lines {ts us : List Tk} (h : Lk ts us) : ∀ (n m : Int) (a b : Int) (p q : Pg), zP p = zP q → zR (linesR n p (ts ++ [⟨4, a, [], 0⟩])) = zR (linesR m q (us ++ [⟨4, b, [], 0⟩])) := by
  induction h with
  | @last A B h h4 =>
    intro n m a b p q hp
    rw [lines_one h4 rfl [] n p, lines_one (no4_z h h4) rfl [] m q]
    have hx := add_alike (p := p) (q := q) (ts := A ++ [⟨4, a, [], 0⟩]) (us := B ++ [⟨4, b, [], 0⟩]) hp (by rw [List.map_append, List.map_append, h]; rfl)
    cases hy : addR p (A ++ [⟨4, a, [], 0⟩]) with
    | err x e =>
      rw [hy] at hx
      cases hw : addR q (B ++ [⟨4, b, [], 0⟩]) with
      | err x' e' => rw [hw] at hx; exact hx
      | ok q' => rw [hw] at hx; cases hx
    | ok p' =>
      rw [hy] at hx
      cases hw : addR q (B ++ [⟨4, b, [], 0⟩]) with
      | err x' e' => rw [hw] at hx; cases hx
      | ok q' =>
        rw [hw] at hx
        simp only
        rw [lines_nil, lines_nil]
        have hpq : zP p' = zP q' := by injection hx
        rw [← compl_z p', ← compl_z q', hpq]
        split
        · exact hx
        · rfl
  | @line A B ts us x y z v h h4 hr ih =>
    intro n m a b p q hp
    rw [List.append_assoc, List.append_assoc, List.cons_append, List.cons_append, List.cons_append, List.cons_append]
    rw [lines_one h4 rfl _ n p, lines_one (no4_z h h4) rfl _ m q]
    have hx := add_alike (p := p) (q := q) (ts := A ++ [⟨4, x, [], 0⟩]) (us := B ++ [⟨4, y, [], 0⟩]) hp (by rw [List.map_append, List.map_append, h]; rfl)
    cases hy : addR p (A ++ [⟨4, x, [], 0⟩]) with
    | err c e =>
      rw [hy] at hx
      cases hw : addR q (B ++ [⟨4, y, [], 0⟩]) with
      | err x' e' => rw [hw] at hx; exact hx
      | ok q' => rw [hw] at hx; cases hx
    | ok p' =>
      rw [hy] at hx
      cases hw : addR q (B ++ [⟨4, y, [], 0⟩]) with
      | err x' e' => rw [hw] at hx; cases hx
      | ok q' =>
        rw [hw] at hx
        simp only
        rw [lines_skip, lines_skip]
        exact ih n m a b p' q' (by injection hx)
/-! ### texts -/
def tr (l : List UInt8) : List UInt8 := l.flatMap fun c => if c = 10 then [9, 35, 10, 10, 10] else [c]
theorem tr_plain {l : List UInt8} (h : ∀ c ∈ l, c.toNat ≠ 10) : tr l = l := by
  induction l with
  | nil => rfl
  | cons c l ih =>
    have hc : c ≠ 10 := fun e => h c (by simp) (by rw [e]; rfl)
    rw [tr, List.flatMap_cons, if_neg hc]
    exact congrArg (c :: ·) (ih fun d hd => h d (by simp [hd]))
theorem tr_app (a b : List UInt8) : tr (a ++ b) = tr a ++ tr b := List.flatMap_append
theorem tr_len (l : List UInt8) : (tr l).length ≤ 5 * l.length := by
  induction l with
  | nil => simp [tr]
  | cons c l ih =>
    rw [tr, List.flatMap_cons, List.length_append, List.length_cons]
    have : (if c = 10 then [(9 : UInt8), 35, 10, 10, 10] else [c]).length ≤ 5 := by split <;> simp
    unfold tr at ih
    omega
theorem split_nl (l : List UInt8) : (∀ c ∈ l, c.toNat ≠ 10) ∨ ∃ A B, l = A ++ 10 :: B ∧ ∀ c ∈ A, c.toNat ≠ 10 := by
  induction l with
  | nil => exact .inl fun c hc => by simp at hc
  | cons c l ih =>
    by_cases hc : c.toNat = 10
    · exact .inr ⟨[], l, by rw [show c = 10 from UInt8.toNat_inj.1 hc]; rfl, fun d hd => by simp at hd⟩
    · rcases ih with h | ⟨A, B, rfl, h⟩
      · exact .inl fun d hd => by
          rcases List.mem_cons.1 hd with rfl | hd
          · exact hc
          · exact h d hd
      · exact .inr ⟨c :: A, B, rfl, fun d hd => by
          rcases List.mem_cons.1 hd with rfl | hd
          · exact hc
          · exact h d hd⟩
theorem lex_tail : ∀ (n : Nat) (A : List UInt8) (a : Int), A.length ≤ n → (∀ c ∈ A, c.toNat ≠ 10) → lexL (A ++ [9, 35]) a = lexL A a := by
  have hempty : ∀ a : Int, lexL [9, 35] a = .ok [] := fun a => by
    rw [lex_tb, lex_skip (show piece 35 [] = .skip 0 from rfl), List.drop_zero, lex_nil]
  intro n
  induction n with
  | zero =>
    intro A a hA _
    obtain rfl : A = [] := List.length_eq_zero_iff.1 (by omega)
    rw [List.nil_append, hempty, lex_nil]
  | succ n ih =>
    intro A a hA h10
    cases A with
    | nil => rw [List.nil_append, hempty, lex_nil]
    | cons b r =>
      simp at hA
      have hd : ∀ k, ∀ c ∈ r.drop k, c.toNat ≠ 10 := fun k c hc => h10 c (List.mem_cons_of_mem _ (List.mem_of_mem_drop hc))
      by_cases h35 : b.toNat = 35
      · have hnote : ∀ y : List UInt8, (∀ c ∈ y, c.toNat ≠ 10) → lexL (b :: y) a = .ok [] := fun y hy => by
          have hb : blB b = false := by unfold blB; simp; omega
          have hp : piece b y = .skip (run nlB y) := by unfold piece; rw [hb, if_neg (by decide), if_pos h35]
          have hr : run nlB y = y.length := run_full _ _ (fun c hc => by unfold nlB; simpa using hy c hc)
          rw [lex_skip hp, hr, List.drop_length, lex_nil]
        rw [List.cons_append, hnote _ (fun c hc => by
          rcases List.mem_append.1 hc with hc | hc
          · exact h10 c (by simp [hc])
          · simp at hc; rcases hc with rfl | rfl <;> decide), hnote _ (fun c hc => h10 c (by simp [hc]))]
      · have hpa : piece b (r ++ [9, 35]) = piece b r := piece_app (hard_tb [35]) r (.inl h35)
        rw [List.cons_append]
        cases hp : piece b r with
        | skip k =>
          have hk := skip_le hp
          rw [lex_skip hp, lex_skip (hpa.trans hp), List.drop_append_of_le_length hk, ih _ _ (by rw [List.length_drop]; omega) (hd k)]
        | tok kd w v k =>
          have hk := piece_le hp
          rw [lex_tok hp, lex_tok (hpa.trans hp), List.drop_append_of_le_length hk, ih _ _ (by rw [List.length_drop]; omega) (hd k)]
        | bad e => rw [lex_bad hp, lex_bad (hpa.trans hp)]
theorem lex_shift (A : List UInt8) (a b : Int) : (∃ p q e, lexL A a = .err p e ∧ lexL A b = .err q e) ∨ ∃ x y, lexL A a = .ok x ∧ lexL A b = .ok y ∧ x.map zT = y.map zT := by
  cases h : lexL A 0 with
  | err p e => exact .inl ⟨_, _, e, lex_at_err a h, lex_at_err b h⟩
  | ok ts => exact .inr ⟨_, _, lex_at4 a h, lex_at4 b h, by rw [mv_z, mv_z]⟩
theorem lex_tr : ∀ (n : Nat) (l : List UInt8) (a b : Int), l.length ≤ n → (∃ p q e, lexL l a = .err p e ∧ lexL (tr l) b = .err q e) ∨ ∃ ts us, lexL l a = .ok ts ∧ lexL (tr l) b = .ok us ∧ Lk ts us := by
  intro n
  induction n with
  | zero =>
    intro l a b hl
    obtain rfl : l = [] := List.length_eq_zero_iff.1 (by omega)
    exact .inr ⟨[], [], lex_nil a, lex_nil b, .last rfl (fun t ht => by simp at ht)⟩
  | succ n ih =>
    intro l a b hl
    rcases split_nl l with h | ⟨A, B, rfl, h⟩
    · rw [tr_plain h]
      rcases lex_shift l a b with hx | ⟨x, y, h1, h2, h3⟩
      · exact .inl hx
      · exact .inr ⟨x, y, h1, h2, .last h3 ((lex_tokS _ l a (Nat.le_refl _) _ h1).2 h)⟩
    · rw [tr_app, tr_plain h, show tr (10 :: B) = 9 :: 35 :: 10 :: 10 :: 10 :: tr B from rfl]
      rw [show A ++ 9 :: 35 :: 10 :: 10 :: 10 :: tr B = (A ++ [9, 35]) ++ 10 :: 10 :: 10 :: tr B by simp]
      rw [lex_beh _ A a (10 :: B) (Nat.le_refl _) (hard_nl B).1 (.inl (hard_nl B).2), lex_beh _ (A ++ [9, 35]) b (10 :: 10 :: 10 :: tr B) (Nat.le_refl _) (hard_nl _).1 (.inl (hard_nl _).2), lex_tail _ A b (Nat.le_refl _) h]
      rw [lex_nl, lex_nl, lex_nl, lex_nl]
      rcases lex_shift A a b with ⟨p, q, e, h1, h2⟩ | ⟨x, y, h1, h2, h3⟩
      · rw [h1, h2]; exact .inl ⟨p, q, e, rfl, rfl⟩
      · rw [h1, h2]
        simp only [Rs.app]
        rcases ih B (a + A.length + 1) (b + (A ++ [9, 35]).length + 1 + 1 + 1) (by simp at hl; omega) with ⟨p, q, e, h4, h5⟩ | ⟨ts, us, h4, h5, h6⟩
        · rw [h4, h5]; exact .inl ⟨p, q, e, rfl, rfl⟩
        · rw [h4, h5]
          exact .inr ⟨_, _, rfl, rfl, .line h3 ((lex_tokS _ A a (Nat.le_refl _) _ h1).2 h) h6⟩
def preB : List UInt8 := [10, 32, 35, 32, 102, 105, 114, 115, 116, 10]
/-- Empty lines, blanks, notes. -/
theorem blanks {l : List UInt8} (hl : l.length ≤ 10000) : (∃ a b c, parseR l = .err a c ∧ parseR (preB ++ tr l) = .err b c) ∨ ∃ p q, parseR l = .ok p ∧ parseR (preB ++ tr l) = .ok q ∧ zP p = zP q := by
  have hlen := tr_len l
  have h1 : ¬ 65536 < l.length := by omega
  have h2 : ¬ 65536 < (preB ++ tr l).length := by rw [List.length_append]; show ¬ 65536 < 10 + _; omega
  have hpre : lexL (preB ++ tr l) 0 = Rs.pre [⟨4, 0, [], 0⟩, ⟨4, 9, [], 0⟩] (lexL (tr l) 10) := by
    show lexL (10 :: ([32, 35, 32, 102, 105, 114, 115, 116] ++ 10 :: tr l)) 0 = _
    rw [lex_nl, lex_beh _ [32, 35, 32, 102, 105, 114, 115, 116] _ (10 :: tr l) (Nat.le_refl _) (hard_nl _).1 (.inl (hard_nl _).2), lex_nl]
    have h0 : lexL [32, 35, 32, 102, 105, 114, 115, 116] (0 + 1) = .ok [] := by
      rw [← lexF_eq 10 _ _ (by decide)]; rfl
    rw [h0]
    simp only [Rs.app, pre_pre, List.nil_append, List.cons_append]
    rfl
  rcases lex_tr _ l 0 10 (Nat.le_refl _) with ⟨p, q, e, h3, h4⟩ | ⟨ts, us, h3, h4, h5⟩
  · refine .inl ⟨p, q, e, pz_bad (by unfold lexR; rw [if_neg h1, h3]), pz_bad (by unfold lexR; rw [if_neg h2, hpre, h4]; rfl)⟩
  · rw [pz_ok (by unfold lexR; rw [if_neg h1, h3]), pz_ok (ts := ⟨4, 0, [], 0⟩ :: ⟨4, 9, [], 0⟩ :: us) (by unfold lexR; rw [if_neg h2, hpre, h4]; rfl)]
    rw [List.cons_append, List.cons_append, lines_skip, lines_skip]
    have hz := lk_lines h5 l.length (preB ++ tr l).length l.length (preB ++ tr l).length ⟨[], []⟩ ⟨[], []⟩ rfl
    cases hx : linesR l.length ⟨[], []⟩ (ts ++ [⟨4, l.length, [], 0⟩]) with
    | err a c =>
      rw [hx] at hz
      cases hy : linesR (preB ++ tr l).length ⟨[], []⟩ (us ++ [⟨4, (preB ++ tr l).length, [], 0⟩]) with
      | err b c' => rw [hy] at hz; injection hz with _ hz; subst hz; exact .inl ⟨a, b, c, rfl, rfl⟩
      | ok q => rw [hy] at hz; cases hz
    | ok p =>
      rw [hx] at hz
      obtain ⟨q, h6, h7⟩ := zR_ok hz.symm
      exact .inr ⟨p, q, rfl, h6, h7.symm⟩
end Go.Proofs.YtbapgdhcbfpdoaaGreatDoor
