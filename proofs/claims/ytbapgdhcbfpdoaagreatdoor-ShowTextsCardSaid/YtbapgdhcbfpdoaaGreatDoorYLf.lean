/- Layer 4, put together: LexY, ParNp, ParFu, ParLa, ParLb, ParLc, ParLd, ParLe, ParLf. -/
import Derived.Test.YtbapgdhcbfpdoaaGreatDoorZLd
import Derived.Test.YtbapgdhcbfpdoaaGreatDoorZM2
/- Laws of how a text is cut, over plain lists. -/
namespace Go.Proofs.YtbapgdhcbfpdoaaGreatDoor
open Go.RowKit

def mv (d : Int) (t : Tk) : Tk := { t with a := t.a + d }
def Rs.mv (d : Int) : Rs → Rs
  | .ok ts => .ok (ts.map (Go.Proofs.YtbapgdhcbfpdoaaGreatDoor.mv d))
  | .err a e => .err (a + d) e
theorem lex_mv (d : Int) : ∀ (n : Nat) (l : List UInt8) (a : Int), l.length ≤ n → lexL l (a + d) = (lexL l a).mv d := by
  intro n
  induction n with
  | zero =>
    intro l a hl
    obtain rfl : l = [] := List.length_eq_zero_iff.1 (by omega)
    rw [lex_nil, lex_nil]; rfl
  | succ n ih =>
    intro l a hl
    cases l with
    | nil => rw [lex_nil, lex_nil]; rfl
    | cons b r =>
      simp at hl
      cases hp : piece b r with
      | skip k =>
        rw [lex_skip hp, lex_skip hp, ← ih _ _ (by rw [List.length_drop]; omega)]
        congr 1; omega
      | tok kd w v k =>
        rw [lex_tok hp, lex_tok hp, show a + d + 1 + (k : Int) = a + 1 + k + d from by omega, ih _ _ (by rw [List.length_drop]; omega)]
        cases lexL (r.drop k) (a + 1 + k) <;> rfl
      | bad e => rw [lex_bad hp, lex_bad hp]; rfl
theorem lex_from (l : List UInt8) (a : Int) : lexL l a = (lexL l 0).mv a := by
  have := lex_mv a _ l 0 (Nat.le_refl _)
  rwa [Int.zero_add] at this
/-- A token's text with a blank behind. -/
theorem lex_spelled {t : Tk} (h : Sp t) (r : List UInt8) (a : Int) : lexL (txt t ++ 32 :: r) a = Rs.pre [{ t with a := a }] (lexL r (a + (txt t).length + 1)) := by
  obtain ⟨b, s, hl, _, _, _, hp⟩ := h
  have h1 := piece_tok hp (32 :: r) (.inr (fun c hc => by simp at hc; subst hc; exact .inr (.inl rfl)))
  rw [List.take_length] at h1
  rw [hl, List.cons_append, lex_tok h1, List.drop_left, bl_skip (by decide)]
  simp only [List.drop_succ_cons, List.drop_zero, List.length_cons]
  congr 2
  omega
end Go.Proofs.YtbapgdhcbfpdoaaGreatDoor
/- Tokens and lines: what a text's tokens are, and one line more. Pure. -/
namespace Go.Proofs.YtbapgdhcbfpdoaaGreatDoor
open Go.RowKit
def Gd (t : Tk) : Prop := t.w.length ≤ 1000 ∧ (t.k = 4 → t.w = [])
theorem lex_gd : ∀ (n : Nat) (l : List UInt8) (a : Int), l.length ≤ n → ∀ ts, lexL l a = .ok ts → (∀ t ∈ ts, Gd t) ∧ ts.length ≤ l.length := by
  intro n
  induction n with
  | zero =>
    intro l a hl ts h
    obtain rfl : l = [] := List.length_eq_zero_iff.1 (by omega)
    rw [lex_nil] at h; injection h with h; subst h
    exact ⟨fun t ht => by simp at ht, Nat.le_refl _⟩
  | succ n ih =>
    intro l a hl ts h
    cases l with
    | nil => rw [lex_nil] at h; injection h with h; subst h; exact ⟨fun t ht => by simp at ht, Nat.le_refl _⟩
    | cons b r =>
      simp at hl
      cases hp : piece b r with
      | skip k =>
        rw [lex_skip hp] at h
        have h1 := ih _ _ (by rw [List.length_drop]; omega) _ h
        rw [List.length_drop] at h1
        exact ⟨h1.1, by simp; omega⟩
      | tok kd w v k =>
        rw [lex_tok hp] at h
        obtain ⟨vs, hv, rfl⟩ := pre_ok h
        have h1 := ih _ _ (by rw [List.length_drop]; omega) _ hv
        rw [List.length_drop] at h1
        refine ⟨fun t ht => ?_, by simp; omega⟩
        simp only [List.cons_append, List.nil_append, List.mem_cons] at ht
        rcases ht with rfl | ht
        · rcases piece_kind hp with ⟨_, h2, _⟩ | ⟨_, h2, _⟩ | ⟨h2, h3, h4, _⟩
          · subst h2; exact ⟨by simp, fun _ => rfl⟩
          · subst h2; exact ⟨by simp, fun _ => rfl⟩
          · refine ⟨?_, fun e => by simp only at e; omega⟩
            subst h3
            simp
            omega
        · exact h1.1 t ht
      | bad e => rw [lex_bad hp] at h; cases h
theorem lex_nz : ∀ (n : Nat) (l : List UInt8) (a : Int), l.length ≤ n → ∀ p e, lexL l a = .err p e → e ≠ 0 := by
  have hb : ∀ {b : UInt8} {r : List UInt8} {e : Int}, piece b r = .bad e → e ≠ 0 := by
    intro b r e hp h
    subst h
    unfold piece at hp
    split at hp
    · cases hp
    split at hp
    · cases hp
    split at hp
    · cases hp
    split at hp
    · split at hp <;> cases hp
    split at hp
    · unfold numP at hp; split at hp <;> cases hp
    split at hp
    · unfold numP at hp; split at hp <;> cases hp
    split at hp
    · cases hp
    split at hp <;> cases hp
  intro n
  induction n with
  | zero =>
    intro l a hl p e h
    obtain rfl : l = [] := List.length_eq_zero_iff.1 (by omega)
    rw [lex_nil] at h; cases h
  | succ n ih =>
    intro l a hl p e h
    cases l with
    | nil => rw [lex_nil] at h; cases h
    | cons b r =>
      simp at hl
      cases hp : piece b r with
      | skip k => rw [lex_skip hp] at h; exact ih _ _ (by rw [List.length_drop]; omega) _ _ h
      | tok kd w v k => rw [lex_tok hp] at h; exact ih _ _ (by rw [List.length_drop]; omega) _ _ (pre_err h)
      | bad e' => rw [lex_bad hp] at h; injection h with h1 h2; subst h2; exact hb hp
theorem lexR_nz {l : List UInt8} {p e : Int} (h : lexR l = .err p e) : e ≠ 0 := by
  unfold lexR at h
  split at h
  · injection h with h1 h2; omega
  · exact lex_nz _ _ _ (Nat.le_refl _) _ _ h
theorem lexR_gd {l : List UInt8} {ts : List Tk} (h : lexR l = .ok ts) : (∀ t ∈ ts, Gd t) ∧ ts.length ≤ 65536 ∧ l.length ≤ 65536 := by
  unfold lexR at h
  split at h
  · cases h
  · have h1 := lex_gd _ _ _ (Nat.le_refl _) _ h
    exact ⟨h1.1, by omega, by omega⟩
theorem lines_nil (e : Int) (p : Pg) : linesR e p [] = if compl p then .ok p else .err e 42 := by rw [linesR]
theorem lines_ok {e : Int} {p q : Pg} {f : Tk} {r : List Tk} (h : addR p ((f :: r).take (cutAt (f :: r))) = .ok q) : linesR e p (f :: r) = linesR e q ((f :: r).drop (cutAt (f :: r))) := by rw [linesR, h]
theorem lines_err {e : Int} {p : Pg} {f : Tk} {r : List Tk} {a c : Int} (h : addR p ((f :: r).take (cutAt (f :: r))) = .err a c) : linesR e p (f :: r) = .err a c := by rw [linesR, h]
theorem ends_take {us : List Tk} (hk : us.findIdx isEnd < us.length) (hg : ∀ t ∈ us, Gd t) : Ends (us.take (us.findIdx isEnd + 1)) := by
  rw [← List.take_append_getElem hk]
  have h1 : isEnd (us[us.findIdx isEnd]) = true := List.findIdx_getElem (w := hk)
  have h2 : (us[us.findIdx isEnd]).k = 4 := of_decide_eq_true h1
  exact Ends.snoc _ _ h2 ((hg _ (List.getElem_mem hk)).2 h2)
theorem find_lt {us : List Tk} {e : Tk} (he : e ∈ us) (h : e.k = 4) : us.findIdx isEnd < us.length := List.findIdx_lt_length_of_exists ⟨e, he, by unfold isEnd; simpa using h⟩
def Pg.cnt (p : Pg) : Nat := p.ins.length + p.lns.length
theorem add_cnt {p q : Pg} {ts : List Tk} (h : addR p ts = .ok q) (hp : p.cnt ≤ 64) : q.cnt ≤ 64 := by
  have hln : ∀ nm pl us, addLnR p nm pl us = .ok q → q.cnt = p.cnt + 1 := by
    intro nm pl us h1
    unfold addLnR at h1
    split at h1
    · cases h1
    · injection h1 with h1; subst h1; simp [Pg.cnt]; omega
  have hin : ∀ f r, addInR p f r = .ok q → q.cnt ≤ p.cnt + 1 := by
    intro f r h1
    unfold addInR at h1
    split at h1
    · cases h1
    · split at h1
      · injection h1 with h1; subst h1; omega
      · split at h1
        · cases h1
        · split at h1
          · cases h1
          · split at h1
            · cases h1
            · injection h1 with h1; subst h1; simp [Pg.cnt]; omega
  unfold addR at h
  split at h
  · injection h with h; subst h; exact hp
  · split at h
    · injection h with h; subst h; exact hp
    split at h
    · cases h
    have h6 : p.cnt < 64 := by unfold Pg.cnt at *; omega
    split at h
    · cases h
    split at h
    · cases h
    split at h
    · have := hin _ _ h; omega
    split at h
    · have := hln _ _ _ h; omega
    split at h
    · cases h
    split at h
    · cases h
    have := hln _ _ _ h; omega
end Go.Proofs.YtbapgdhcbfpdoaaGreatDoor
/- How texts are read, with fuel, so that it can be worked out: over plain lists. -/
namespace Go.Proofs.YtbapgdhcbfpdoaaGreatDoor
open Go.RowKit
def lexF : Nat → List UInt8 → Int → Rs
  | 0, _, _ => .ok []
  | _ + 1, [], _ => .ok []
  | n + 1, b :: r, a => match piece b r with
    | .skip k => lexF n (r.drop k) (a + 1 + k)
    | .tok kd w v k => Rs.pre [⟨kd, a, w, v⟩] (lexF n (r.drop k) (a + 1 + k))
    | .bad e => .err a e
theorem lexF_eq : ∀ (n : Nat) (l : List UInt8) (a : Int), l.length ≤ n → lexF n l a = lexL l a
  | 0, l, a, h => by obtain rfl : l = [] := List.length_eq_zero_iff.1 (by omega); rw [lex_nil]; rfl
  | n + 1, [], a, _ => by rw [lex_nil]; rfl
  | n + 1, b :: r, a, h => by
    simp at h
    have e : lexF (n + 1) (b :: r) a = match piece b r with
      | .skip k => lexF n (r.drop k) (a + 1 + k)
      | .tok kd w v k => Rs.pre [⟨kd, a, w, v⟩] (lexF n (r.drop k) (a + 1 + k))
      | .bad e => .err a e := rfl
    rw [e]
    cases hp : piece b r with
    | skip k => rw [lex_skip hp]; exact lexF_eq n _ _ (by rw [List.length_drop]; omega)
    | tok kd w v k => rw [lex_tok hp]; simp only; rw [lexF_eq n _ _ (by rw [List.length_drop]; omega)]
    | bad e => rw [lex_bad hp]
def mrunF : Nat → List Tk → Bool → List It → List (Option It) → Er
  | 0, _, _, l, _ => .ok l
  | _ + 1, [], _, l, _ => .ok l
  | n + 1, t :: r, b, l, s =>
    if vb t.w then
      (if (phR t.w b (mk r).1).2 = 0 then .err t.a 43 else mrunF n (mk r).2 false l (some ⟨(phR t.w b (mk r).1).1, t.a, (phR t.w b (mk r).1).2, [], []⟩ :: s))
    else if b = false then
      (if t.k = 2 then mrunF n (pastNums r) true (l ++ [⟨1, t.a, 0, [], t.n :: numsOf r⟩]) s
      else if nameB t.w then mrunF n r true (l ++ [⟨2, t.a, 0, t.w, []⟩]) s
      else if t.w = [40] then (if opens s = 32 then .err t.a 44 else mrunF n r false l (none :: s))
      else if t.k = 1 then .err t.a 41 else .err t.a 42)
    else if t.k = 4 then (if 0 < opens s then .err t.a 42 else .ok (settleL l s).1)
    else if t.w = [41] ∧ 0 < opens s then mrunF n r true (settleL l s).1 (settleL l s).2
    else .err t.a 46
theorem mrunF_eq : ∀ (n : Nat) (ts : List Tk) (b : Bool) (l : List It) (s : List (Option It)), ts.length ≤ n → mrunF n ts b l s = mrun ts b l s
  | 0, ts, b, l, s, h => by obtain rfl : ts = [] := List.length_eq_zero_iff.1 (by omega); rw [mrun]; rfl
  | n + 1, [], b, l, s, _ => by rw [mrun]; rfl
  | n + 1, t :: r, b, l, s, h => by
    simp at h
    have h1 := mk_len r
    have h2 := past_len r
    rw [mrun_cons, mrunF, mrunF_eq n _ _ _ _ (by omega), mrunF_eq n _ _ _ _ (by omega), mrunF_eq n _ _ _ _ (by omega), mrunF_eq n _ _ _ _ (by omega), mrunF_eq n _ _ _ _ (by omega)]
def exprF (ts : List Tk) : Er := mrunF ts.length ts false [] []
theorem exprF_eq (ts : List Tk) : exprF ts = exprR ts := mrunF_eq _ _ _ _ _ (Nat.le_refl _)
def addLnF (p : Pg) (nm : List UInt8) (pl : Int) (ts : List Tk) : Pr := match exprF ts with
  | .err a e => .err a e
  | .ok its => .ok ⟨p.ins, p.lns ++ [⟨nm, pl, its⟩]⟩
theorem addLnF_eq (p : Pg) (nm : List UInt8) (pl : Int) (ts : List Tk) : addLnF p nm pl ts = addLnR p nm pl ts := by unfold addLnF addLnR; rw [exprF_eq]; cases exprR ts <;> rfl
def addF (p : Pg) (ts : List Tk) : Pr := match ts with
  | [] => .ok p
  | f :: r =>
    if f.k = 4 then .ok p
    else if p.ins.length + p.lns.length = 64 then .err f.a 45
    else if 256 < r.length then .err ((f :: r).getD 256 default).a 45
    else if compl p then .err f.a 40
    else if f.w = [105, 110] then addInR p f r
    else if f.w = [111, 117, 116] then addLnF p [] f.a r
    else if nameB f.w = false then .err f.a 40
    else if (r.getD 0 default).w ≠ [58] then .err (r.getD 0 default).a 42
    else addLnF p f.w f.a (r.drop 1)
theorem addF_eq (p : Pg) (ts : List Tk) : addF p ts = addR p ts := by
  cases ts with
  | nil => rfl
  | cons f r => unfold addF addR; simp only [addLnF_eq]
def linesF : Nat → Int → Pg → List Tk → Pr
  | 0, e, p, _ => if compl p then .ok p else .err e 42
  | _ + 1, e, p, [] => if compl p then .ok p else .err e 42
  | n + 1, e, p, t :: r => match addF p ((t :: r).take (cutAt (t :: r))) with
    | .err a c => .err a c
    | .ok q => linesF n e q ((t :: r).drop (cutAt (t :: r)))
theorem linesF_eq : ∀ (n : Nat) (e : Int) (p : Pg) (ts : List Tk), ts.length ≤ n → linesF n e p ts = linesR e p ts
  | 0, e, p, ts, h => by obtain rfl : ts = [] := List.length_eq_zero_iff.1 (by omega); rw [lines_nil]; rfl
  | n + 1, e, p, [], _ => by rw [lines_nil]; rfl
  | n + 1, e, p, t :: r, h => by
    simp at h
    rw [linesF, addF_eq]
    cases hx : addR p ((t :: r).take (cutAt (t :: r))) with
    | err a c => rw [lines_err hx]
    | ok q => rw [lines_ok hx]; exact linesF_eq n _ _ _ (by simp [cutAt]; omega)
def parseF (l : List UInt8) : Pr := match lexF l.length l 0 with
  | .err a e => .err a e
  | .ok ts => linesF (ts.length + 1) l.length ⟨[], []⟩ (ts ++ [⟨4, l.length, [], 0⟩])
theorem parseF_eq {l : List UInt8} (h : l.length ≤ 65536) : parseF l = parseR l := by
  unfold parseF parseR lexR
  rw [if_neg (by omega), lexF_eq _ _ _ (Nat.le_refl _)]
  cases lexL l 0 with
  | err a e => rfl
  | ok ts => exact linesF_eq _ _ _ _ (by simp)
deriving instance DecidableEq for Pr
/-- The document's examples. -/
def bytesOf (s : List Nat) : List UInt8 := s.map UInt8.ofNat
end Go.Proofs.YtbapgdhcbfpdoaaGreatDoor
/- How a text with something behind it is cut: over plain lists. -/
namespace Go.Proofs.YtbapgdhcbfpdoaaGreatDoor
open Go.RowKit
theorem run_app {f : UInt8 → Bool} {x : List UInt8} (h : headNot f x) (r : List UInt8) : run f (r ++ x) = run f r := by
  induction r with
  | nil =>
    rw [List.nil_append, run_nil]
    cases x with
    | nil => rfl
    | cons c x => rw [run_cons, h c rfl]; rfl
  | cons c r ih => rw [List.cons_append, run_cons, run_cons, ih]
theorem take_app {f : UInt8 → Bool} (r x : List UInt8) : (r ++ x).take (run f r) = r.take (run f r) := by
  rw [List.take_append_of_le_length (run_le f r)]
/-- What stands behind, and ends each piece. -/
def hard (x : List UInt8) : Prop := headNot digB x ∧ headNot alnB x ∧ x.head? ≠ some 61
theorem head_app {r x : List UInt8} (h : x.head? ≠ some 61) : (r ++ x).head? = some 61 ↔ r.head? = some 61 := by
  cases r with
  | nil => simp [h]
  | cons c r => simp
theorem piece_app {b : UInt8} {x : List UInt8} (hx : hard x) (r : List UInt8) (hn : b.toNat ≠ 35 ∨ headNot nlB x) : piece b (r ++ x) = piece b r := by
  unfold piece
  split
  · rfl
  split
  · rename_i h
    rcases hn with hn | hn
    · exact (hn h).elim
    · rw [run_app hn]
  split
  · rfl
  simp only [run_app hx.1, run_app hx.2.1, take_app, head_app hx.2.2]
def Rs.app : Rs → Rs → Rs
  | .ok ts, y => Rs.pre ts y
  | .err p e, _ => .err p e
theorem pre_app (us : List Tk) (x y : Rs) : Rs.pre us (x.app y) = (Rs.pre us x).app y := by
  cases x with
  | ok ts => exact pre_pre us ts y
  | err a e => rfl
theorem lex_beh : ∀ (n : Nat) (l : List UInt8) (a : Int) (x : List UInt8), l.length ≤ n → hard x → (headNot nlB x ∨ ∀ c ∈ l, c.toNat ≠ 35) → lexL (l ++ x) a = (lexL l a).app (lexL x (a + l.length)) := by
  intro n
  induction n with
  | zero =>
    intro l a x hl hx hn
    obtain rfl : l = [] := List.length_eq_zero_iff.1 (by omega)
    rw [lex_nil, List.nil_append]; simp [Rs.app, pre_nil]
  | succ n ih =>
    intro l a x hl hx hn
    cases l with
    | nil => rw [lex_nil, List.nil_append]; simp [Rs.app, pre_nil]
    | cons b r =>
      simp at hl
      have hpa : piece b (r ++ x) = piece b r := piece_app hx r (hn.elim .inr fun h => .inl (h b (by simp)))
      have hn' : ∀ k, headNot nlB x ∨ ∀ c ∈ r.drop k, c.toNat ≠ 35 := fun k => hn.imp id fun h c hc => h c (List.mem_cons_of_mem _ (List.mem_of_mem_drop hc))
      have hlen : ∀ k : Nat, k ≤ r.length → a + 1 + (k : Int) + ((r.drop k).length : Nat) = a + ((b :: r).length : Nat) := fun k hk => by rw [List.length_drop, List.length_cons]; omega
      rw [List.cons_append]
      cases hp : piece b r with
      | skip k =>
        have hk := skip_le hp
        rw [lex_skip hp, lex_skip (hpa.trans hp), List.drop_append_of_le_length hk, ih _ _ _ (by rw [List.length_drop]; omega) hx (hn' k), hlen k hk]
      | tok kd w v k =>
        have hk := piece_le hp
        rw [lex_tok hp, lex_tok (hpa.trans hp), List.drop_append_of_le_length hk, ih _ _ _ (by rw [List.length_drop]; omega) hx (hn' k), hlen k hk, pre_app]
      | bad e => rw [lex_bad hp, lex_bad (hpa.trans hp)]; rfl
theorem hard_nl (x : List UInt8) : hard (10 :: x) ∧ headNot nlB (10 :: x) := ⟨⟨fun c hc => by simp at hc; subst hc; decide, fun c hc => by simp at hc; subst hc; decide, by simp⟩, fun c hc => by simp at hc; subst hc; decide⟩
theorem hard_bl (x : List UInt8) : hard (32 :: x) := ⟨fun c hc => by simp at hc; subst hc; decide, fun c hc => by simp at hc; subst hc; decide, by simp⟩
theorem hard_tb (x : List UInt8) : hard (9 :: x) := ⟨fun c hc => by simp at hc; subst hc; decide, fun c hc => by simp at hc; subst hc; decide, by simp⟩
theorem hard_cl (x : List UInt8) : hard (41 :: x) := ⟨fun c hc => by simp at hc; subst hc; decide, fun c hc => by simp at hc; subst hc; decide, by simp⟩
theorem lex_nl (a : Int) (x : List UInt8) : lexL (10 :: x) a = Rs.pre [⟨4, a, [], 0⟩] (lexL x (a + 1)) := by
  have hp : piece 10 x = .tok 4 [] 0 0 := by unfold piece; rw [if_neg (by decide), if_neg (by decide), if_pos (by decide)]
  rw [lex_tok hp, List.drop_zero]; simp
theorem lex_bl (a : Int) (x : List UInt8) : lexL (32 :: x) a = lexL x (a + 1) := by rw [bl_skip (by decide)]; rfl
theorem lex_tb (a : Int) (x : List UInt8) : lexL (9 :: x) a = lexL x (a + 1) := by rw [bl_skip (by decide)]; rfl
theorem lex_sgn {b : UInt8} (h : ∀ y, piece b y = .tok 3 [b] 0 0) (a : Int) (x : List UInt8) : lexL (b :: x) a = Rs.pre [⟨3, a, [b], 0⟩] (lexL x (a + 1)) := by
  rw [lex_tok (h x), List.drop_zero]; simp
theorem piece_open (y : List UInt8) : piece 40 y = .tok 3 [40] 0 0 := by
  unfold piece; rw [if_neg (by decide), if_neg (by decide), if_neg (by decide), if_neg (by decide), if_neg (by decide), if_neg (fun h => absurd h.1 (by decide)), if_neg (fun h => absurd h.1 (by decide)), if_pos (by decide)]
theorem piece_close (y : List UInt8) : piece 41 y = .tok 3 [41] 0 0 := by
  unfold piece; rw [if_neg (by decide), if_neg (by decide), if_neg (by decide), if_neg (by decide), if_neg (by decide), if_neg (fun h => absurd h.1 (by decide)), if_neg (fun h => absurd h.1 (by decide)), if_pos (by decide)]
theorem piece_colon (y : List UInt8) : piece 58 y = .tok 3 [58] 0 0 := by
  unfold piece; rw [if_neg (by decide), if_neg (by decide), if_neg (by decide), if_neg (by decide), if_neg (by decide), if_neg (fun h => absurd h.1 (by decide)), if_neg (fun h => absurd h.1 (by decide)), if_pos (by decide)]
/-- What tokens of a text are like. -/
def Tok (t : Tk) : Prop := (t.k = 1 ∨ t.k = 2 ∨ t.k = 3 ∨ t.k = 4) ∧ (t.k = 4 → t.w = [] ∧ t.n = 0) ∧ (t.k = 2 → t.w = []) ∧ ((t.k = 1 ∨ t.k = 3) → t.w ≠ [] ∧ t.n = 0) ∧ t.w.length ≤ 16
theorem piece_tokS {b : UInt8} {r : List UInt8} {kd v : Int} {w : List UInt8} {k : Nat} (h : piece b r = .tok kd w v k) (a : Int) : Tok ⟨kd, a, w, v⟩ ∧ (kd = 4 → b.toNat = 10) := by
  refine ⟨?_, ?_⟩
  · rcases piece_kind h with ⟨rfl, rfl, _, rfl⟩ | ⟨rfl, rfl, _, _⟩ | ⟨h1, rfl, h3, rfl⟩
    · exact ⟨by simp, fun _ => ⟨rfl, rfl⟩, fun _ => rfl, fun h => by simp at h, by simp⟩
    · exact ⟨by simp, fun _ => by simp_all, fun _ => rfl, fun h => by simp at h, by simp⟩
    · refine ⟨?_, ?_, ?_, fun _ => ⟨by simp, rfl⟩, by simp; omega⟩
      · rcases h1 with rfl | rfl <;> simp
      · rcases h1 with rfl | rfl <;> simp
      · rcases h1 with rfl | rfl <;> simp
  · rintro rfl
    unfold piece at h
    split at h
    · cases h
    split at h
    · cases h
    split at h
    · assumption
    split at h
    · split at h <;> cases h
    have hnum : ∀ {o : Option Int} {j : Nat}, numP o j = .tok 4 w v k → False := by
      intro o j hp
      cases o <;> cases hp
    split at h
    · exact (hnum h).elim
    split at h
    · exact (hnum h).elim
    split at h
    · cases h
    split at h <;> cases h
theorem lex_tokS : ∀ (n : Nat) (l : List UInt8) (a : Int), l.length ≤ n → ∀ ts, lexL l a = .ok ts → (∀ t ∈ ts, Tok t) ∧ ((∀ c ∈ l, c.toNat ≠ 10) → ∀ t ∈ ts, t.k ≠ 4) := by
  intro n
  induction n with
  | zero =>
    intro l a hl ts h
    obtain rfl : l = [] := List.length_eq_zero_iff.1 (by omega)
    rw [lex_nil] at h; injection h with h; subst h
    exact ⟨fun t ht => by simp at ht, fun _ t ht => by simp at ht⟩
  | succ n ih =>
    intro l a hl ts h
    cases l with
    | nil => rw [lex_nil] at h; injection h with h; subst h; exact ⟨fun t ht => by simp at ht, fun _ t ht => by simp at ht⟩
    | cons b r =>
      simp at hl
      cases hp : piece b r with
      | skip k =>
        rw [lex_skip hp] at h
        have h1 := ih _ _ (by rw [List.length_drop]; omega) _ h
        exact ⟨h1.1, fun hc => h1.2 fun c hm => hc c (List.mem_cons_of_mem _ (List.mem_of_mem_drop hm))⟩
      | tok kd w v k =>
        rw [lex_tok hp] at h
        obtain ⟨vs, hv, rfl⟩ := pre_ok h
        have h1 := ih _ _ (by rw [List.length_drop]; omega) _ hv
        have h2 := piece_tokS hp a
        refine ⟨fun t ht => ?_, fun hc t ht => ?_⟩
        · simp only [List.cons_append, List.nil_append, List.mem_cons] at ht
          rcases ht with rfl | ht
          · exact h2.1
          · exact h1.1 t ht
        · simp only [List.cons_append, List.nil_append, List.mem_cons] at ht
          rcases ht with rfl | ht
          · exact fun e => hc b (by simp) (h2.2 e)
          · exact h1.2 (fun c hm => hc c (List.mem_cons_of_mem _ (List.mem_of_mem_drop hm))) t ht
      | bad e => rw [lex_bad hp] at h; cases h
end Go.Proofs.YtbapgdhcbfpdoaaGreatDoor
/- Where a fault is told, and what is read ahead of it: over plain lists. -/
namespace Go.Proofs.YtbapgdhcbfpdoaaGreatDoor
open Go.RowKit
theorem addR_nz {p : Pg} {ts : List Tk} {a c : Int} (h : addR p ts = .err a c) : 40 ≤ c ∧ c ≤ 46 := by
  have hln : ∀ nm pl us, addLnR p nm pl us = .err a c → 40 ≤ c ∧ c ≤ 46 := by
    intro nm pl us h1
    unfold addLnR at h1
    split at h1
    · rename_i a' e' h2
      injection h1 with h3 h4
      subst h4
      have := mrun_err _ _ _ _ _ _ _ (Nat.le_refl _) h2
      omega
    · cases h1
  have hsd : ∀ us l, sidesR us l = .err a c → 40 ≤ c ∧ c ≤ 46 := by
    intro us
    induction us with
    | nil => intro l h1; rw [sidesR] at h1; cases h1
    | cons u us ih =>
      intro l h1
      rw [sidesR] at h1
      split at h1
      · injection h1 with _ h1; omega
      split at h1
      · injection h1 with _ h1; omega
      · exact ih _ h1
  have hin : ∀ f r, addInR p f r = .err a c → 40 ≤ c ∧ c ≤ 46 := by
    intro f r h1
    unfold addInR at h1
    split at h1
    · injection h1 with _ h1; omega
    · split at h1
      · cases h1
      · split at h1
        · injection h1 with _ h1; omega
        · split at h1
          · injection h1 with _ h1; omega
          · split at h1
            · rename_i a' e' h2
              injection h1 with h3 h4
              subst h3 h4
              exact hsd _ _ h2
            · cases h1
  unfold addR at h
  split at h
  · cases h
  · split at h
    · cases h
    split at h
    · injection h with _ h; omega
    split at h
    · injection h with _ h; omega
    split at h
    · injection h with _ h; omega
    split at h
    · exact hin _ _ h
    split at h
    · exact hln _ _ _ h
    split at h
    · injection h with _ h; omega
    split at h
    · injection h with _ h; omega
    exact hln _ _ _ h
theorem pz_ok {l : List UInt8} {ts : List Tk} (h : lexR l = .ok ts) : parseR l = linesR l.length ⟨[], []⟩ (ts ++ [⟨4, l.length, [], 0⟩]) := by unfold parseR; rw [h]
theorem pz_bad {l : List UInt8} {a c : Int} (h : lexR l = .err a c) : parseR l = .err a c := by unfold parseR; rw [h]
end Go.Proofs.YtbapgdhcbfpdoaaGreatDoor
/- Items that are read are of their valence; programs that are read have names. Over plain lists. -/
namespace Go.Proofs.YtbapgdhcbfpdoaaGreatDoor
open Go.RowKit
def tk1 (f : Int) : Bool := (decide (1 ≤ f) && decide (f ≤ 7)) || (f == 16)
def tk2 (f : Int) : Bool := decide (1 ≤ f) && decide (f ≤ 17) && (f != 16)
/-- May a verb take so many? -/
def takesI (x : It) : Bool := if x.how = 3 then tk1 x.fn || (decide (32 ≤ x.fn) && decide (x.fn ≤ 36)) else if x.how = 4 then tk2 x.fn || (decide (37 ≤ x.fn) && decide (x.fn ≤ 40)) else tk2 x.fn
/-- An item as it is read. -/
def ItOk (x : It) : Prop :=
  (x.how = 1 ∧ x.ns ≠ [] ∧ x.nm = [] ∧ x.fn = 0) ∨ (x.how = 2 ∧ x.ns = [] ∧ x.nm ≠ [] ∧ x.fn = 0) ∨ ((isM x ∨ isD x) ∧ takesI x = true ∧ 1 ≤ x.fn ∧ x.fn ≤ 40 ∧ x.ns = [] ∧ x.nm = [])
theorem vlook_mem : ∀ (l : List (List UInt8 × Int × Int)) (w : List UInt8), vlookIn l w = (0, 0) ∨ ∃ v, (v, vlookIn l w) ∈ l
  | [], w => .inl rfl
  | (v, x) :: r, w => by
    unfold vlookIn
    split
    · exact .inr ⟨v, by simp⟩
    · rcases vlook_mem r w with h | ⟨v', h⟩
      · exact .inl h
      · exact .inr ⟨v', List.mem_cons_of_mem _ h⟩
theorem vtab_one : (vtab.all fun e => (e.2.1 == 0) || ((tk1 e.2.1 || (decide (32 ≤ e.2.1) && decide (e.2.1 ≤ 36))) && decide (1 ≤ e.2.1) && decide (e.2.1 ≤ 40))) = true := by decide
theorem vtab_two : (vtab.all fun e => (e.2.2 == 0) || ((tk2 e.2.2 || (decide (37 ≤ e.2.2) && decide (e.2.2 ≤ 40))) && decide (1 ≤ e.2.2) && decide (e.2.2 ≤ 40))) = true := by decide
theorem vtab_betw : (vtab.all fun e => (e.2.2 == 0) || decide (17 < e.2.2) || (tk2 e.2.2)) = true := by decide
theorem verbR_one {w : List UInt8} (h : verbR w false ≠ 0) : (tk1 (verbR w false) || (decide (32 ≤ verbR w false) && decide (verbR w false ≤ 36))) = true ∧ 1 ≤ verbR w false ∧ verbR w false ≤ 40 := by
  have e : verbR w false = (vlookIn vtab w).1 := rfl
  rw [e] at h ⊢
  rcases vlook_mem vtab w with h1 | ⟨v, h1⟩
  · rw [h1] at h; exact (h rfl).elim
  · have h2 := List.all_eq_true.1 vtab_one _ h1
    simp only at h2
    rw [show ((vlookIn vtab w).1 == 0) = false by simpa using h, Bool.false_or, Bool.and_eq_true, Bool.and_eq_true, decide_eq_true_eq, decide_eq_true_eq] at h2
    exact ⟨h2.1.1, h2.1.2, h2.2⟩
theorem verbR_two {w : List UInt8} (h : verbR w true ≠ 0) : (tk2 (verbR w true) || (decide (37 ≤ verbR w true) && decide (verbR w true ≤ 40))) = true ∧ 1 ≤ verbR w true ∧ verbR w true ≤ 40 := by
  have e : verbR w true = (vlookIn vtab w).2 := rfl
  rw [e] at h ⊢
  rcases vlook_mem vtab w with h1 | ⟨v, h1⟩
  · rw [h1] at h; exact (h rfl).elim
  · have h2 := List.all_eq_true.1 vtab_two _ h1
    simp only at h2
    rw [show ((vlookIn vtab w).2 == 0) = false by simpa using h, Bool.false_or, Bool.and_eq_true, Bool.and_eq_true, decide_eq_true_eq, decide_eq_true_eq] at h2
    exact ⟨h2.1.1, h2.1.2, h2.2⟩
theorem betw_two {w : List UInt8} (h : betw w ≠ 0) : tk2 (betw w) = true ∧ 1 ≤ betw w ∧ betw w ≤ 40 := by
  unfold betw at h ⊢
  split at h
  · exact (h rfl).elim
  · rename_i h17
    rw [if_neg h17]
    have e : verbR w true = (vlookIn vtab w).2 := rfl
    refine ⟨?_, (verbR_two h).2⟩
    rw [e] at h h17 ⊢
    rcases vlook_mem vtab w with h1 | ⟨v, h1⟩
    · rw [h1] at h; exact (h rfl).elim
    · have h2 := List.all_eq_true.1 vtab_betw _ h1
      simp only at h2
      rw [show ((vlookIn vtab w).2 == 0) = false by simpa using h, show decide (17 < (vlookIn vtab w).2) = false by simpa using h17] at h2
      simpa using h2
theorem phR_ok {w : List UInt8} {b : Bool} {m : List UInt8} {a : Int} (h : (phR w b m).2 ≠ 0) : ItOk ⟨(phR w b m).1, a, (phR w b m).2, [], []⟩ := by
  have hh := phR_how h
  refine .inr (.inr ⟨?_, ?_⟩)
  · rcases hh with ⟨_, hh⟩ | ⟨_, hh⟩
    · exact .inl hh
    · exact .inr hh
  unfold phR at h ⊢
  split at h
  · rename_i h1; rw [if_pos h1]; have := betw_two h; exact ⟨by simpa [takesI] using this.1, this.2.1, this.2.2, rfl, rfl⟩
  rename_i h1; rw [if_neg h1]
  split at h
  · rename_i h1; rw [if_pos h1]; have := betw_two h; exact ⟨by simpa [takesI] using this.1, this.2.1, this.2.2, rfl, rfl⟩
  rename_i h1; rw [if_neg h1]
  split at h
  · rename_i h1; rw [if_pos h1]; have := betw_two h; exact ⟨by simpa [takesI] using this.1, this.2.1, this.2.2, rfl, rfl⟩
  rename_i h1; rw [if_neg h1]
  split at h
  · rename_i h1; rw [if_pos h1]; have := verbR_two h; exact ⟨by simpa [takesI] using this.1, this.2.1, this.2.2, rfl, rfl⟩
  rename_i h1; rw [if_neg h1]
  split at h
  · rename_i h1; rw [if_pos h1]; have := verbR_one h; exact ⟨by simpa [takesI] using this.1, this.2.1, this.2.2, rfl, rfl⟩
  · exact (h rfl).elim
theorem settle_all {P : It → Prop} : ∀ (s : List (Option It)) (l : List It), (∀ x ∈ l, P x) → (∀ y ∈ s, ∀ x, y = some x → P x) → (∀ x ∈ (settleL l s).1, P x) ∧ (∀ y ∈ (settleL l s).2, ∀ x, y = some x → P x)
  | [], l, hl, hs => ⟨hl, hs⟩
  | none :: s, l, hl, hs => ⟨hl, fun y hy => hs y (List.mem_cons_of_mem _ hy)⟩
  | some x :: s, l, hl, hs => settle_all s (l ++ [x]) (fun y hy => by
      rcases List.mem_append.1 hy with h | h
      · exact hl y h
      · simp at h; subst h; exact hs (some y) (by simp) y rfl) (fun y hy => hs y (List.mem_cons_of_mem _ hy))
theorem name_ne {w : List UInt8} (h : nameB w = true) : w ≠ [] := by rintro rfl; exact absurd h (by decide)
theorem mrun_items : ∀ (n : Nat) (ts : List Tk) (b : Bool) (l : List It) (s : List (Option It)) (x : List It), ts.length ≤ n → (∀ y ∈ l, ItOk y) → (∀ y ∈ s, ∀ z, y = some z → ItOk z) → mrun ts b l s = .ok x → ∀ y ∈ x, ItOk y := by
  intro n
  induction n with
  | zero =>
    intro ts b l s x hn hl hs h
    obtain rfl : ts = [] := List.eq_nil_of_length_eq_zero (by omega)
    rw [mrun] at h; injection h with h; subst h; exact hl
  | succ n ih =>
    intro ts b l s x hn hl hs h
    cases ts with
    | nil => rw [mrun] at h; injection h with h; subst h; exact hl
    | cons t r =>
      simp only [List.length_cons] at hn
      have h1 := mk_len r
      have h2 := past_len r
      have snoc : ∀ y : It, ItOk y → ∀ z ∈ l ++ [y], ItOk z := fun y hy z hz => by
        rcases List.mem_append.1 hz with h | h
        · exact hl z h
        · simp at h; subst h; exact hy
      have push : ∀ o : Option It, (∀ z, o = some z → ItOk z) → ∀ y ∈ o :: s, ∀ z, y = some z → ItOk z := fun o ho y hy z hz => by
        rcases List.mem_cons.1 hy with h | h
        · subst h; exact ho z hz
        · exact hs y h z hz
      rw [mrun_cons] at h
      split at h
      · split at h
        · cases h
        · rename_i hf
          exact ih _ _ _ _ _ (by omega) hl (push _ fun z hz => by injection hz with hz; subst hz; exact phR_ok hf) h
      · split at h
        · split at h
          · exact ih _ _ _ _ _ (by omega) (snoc _ (.inl ⟨rfl, by simp, rfl, rfl⟩)) hs h
          · split at h
            · rename_i hnm
              exact ih _ _ _ _ _ (by omega) (snoc _ (.inr (.inl ⟨rfl, rfl, name_ne hnm, rfl⟩))) hs h
            · split at h
              · split at h
                · cases h
                · exact ih _ _ _ _ _ (by omega) hl (push _ fun z hz => by cases hz) h
              · split at h <;> cases h
        · have hse := settle_all (P := ItOk) s l hl hs
          split at h
          · split at h
            · cases h
            · injection h with h; subst h; exact hse.1
          · split at h
            · exact ih _ _ _ _ _ (by omega) hse.1 hse.2 h
            · cases h
theorem expr_items {ts : List Tk} {x : List It} (h : exprR ts = .ok x) : ∀ y ∈ x, ItOk y := mrun_items _ ts false [] [] x (Nat.le_refl _) (fun y hy => by simp at hy) (fun y hy => by simp at hy) h
/-- A program so far, as it is read: each line but an out has a name. -/
structure PgOk (p : Pg) : Prop where
  its : ∀ m ∈ p.lns, runF m.its 0 = some 1 ∧ ∀ y ∈ m.its, ItOk y
  nms : ∀ i, (h : i < p.lns.length) → (nameB (p.lns[i]).nm = true ∨ (p.lns[i]).nm = [] ∧ i + 1 = p.lns.length)
  ins : ∀ m ∈ p.ins, nameB m.nm = true ∧ m.sd.length ≤ 4
  cnt : p.ins.length + p.lns.length ≤ 64
theorem compl_iff (p : Pg) : compl p = true ↔ ∃ (h : 0 < p.lns.length), (p.lns[p.lns.length - 1]).nm = [] := by
  unfold compl
  cases hl : p.lns.getLast? with
  | none =>
    have : p.lns = [] := List.getLast?_eq_none_iff.1 hl
    simp [this]
  | some l =>
    have hne : 0 < p.lns.length := by
      rcases Nat.eq_zero_or_pos p.lns.length with h | h
      · rw [List.length_eq_zero_iff.1 h] at hl; simp at hl
      · exact h
    rw [List.getLast?_eq_getElem?, List.getElem?_eq_getElem (by omega)] at hl
    injection hl with hl
    rw [← hl]
    simp [hne]
theorem sides_len : ∀ (us : List Tk) (l sd : List (List UInt8 × Int)), l.length ≤ 4 → sidesR us l = .ok sd → sd.length ≤ 4 := by
  intro us
  induction us with
  | nil => intro l sd hl h; rw [sidesR] at h; injection h with h; subst h; exact hl
  | cons u us ih =>
    intro l sd hl h
    rw [sidesR] at h
    split at h
    · cases h
    split at h
    · cases h
    · exact ih _ _ (by simp; omega) h
theorem addR_ok {p q : Pg} {ts : List Tk} (hp : PgOk p) (he : Ends ts) (h : addR p ts = .ok q) : PgOk q := by
  have hcnt := add_cnt h hp.cnt
  have hln : compl p = false → ∀ nm pl us, Ends us → (nameB nm = true ∨ nm = []) → addLnR p nm pl us = .ok q → PgOk q := by
    intro hc nm pl us hus hnm h1
    unfold addLnR at h1
    split at h1
    · cases h1
    · rename_i its h2
      injection h1 with h1
      subst h1
      refine ⟨fun m hm => ?_, fun i hi => ?_, hp.ins, hcnt⟩
      · simp only [List.mem_append, List.mem_singleton] at hm
        rcases hm with hm | rfl
        · exact hp.its m hm
        · exact ⟨expr_flat hus h2, expr_items h2⟩
      · simp only [List.length_append, List.length_cons, List.length_nil] at hi
        rcases Nat.lt_or_ge i p.lns.length with h3 | h3
        · simp only [List.getElem_append_left h3]
          left
          rcases hp.nms i h3 with h4 | ⟨h4, h5⟩
          · exact h4
          · exfalso
            rw [(compl_iff p).2 ⟨by omega, by rw [← h4]; congr 1; congr 1; omega⟩] at hc
            cases hc
        · obtain rfl : i = p.lns.length := by omega
          simp only [List.getElem_concat_length]
          rcases hnm with h4 | h4
          · exact .inl h4
          · exact .inr ⟨h4, by simp⟩
  unfold addR at h
  split at h
  · injection h with h; subst h; exact hp
  · rename_i f r
    split at h
    · injection h with h; subst h; exact hp
    rename_i hk
    have her : Ends r := he.resolve_left fun h => hk h.2.1
    split at h
    · cases h
    split at h
    · cases h
    split at h
    · cases h
    rename_i hc
    have hc : compl p = false := by simpa using hc
    split at h
    · unfold addInR at h
      split at h
      · cases h
      · split at h
        · injection h with h; subst h; exact hp
        · rename_i t r
          split at h
          · cases h
          · split at h
            · cases h
            · rename_i hnm
              split at h
              · cases h
              · rename_i sd h2
                injection h with h
                subst h
                refine ⟨hp.its, hp.nms, fun m hm => ?_, hcnt⟩
                simp only [List.mem_append, List.mem_singleton] at hm
                rcases hm with hm | rfl
                · exact hp.ins m hm
                · exact ⟨by simpa using hnm, sides_len _ [] _ (by simp) h2⟩
    split at h
    · exact hln hc _ _ _ her (.inr rfl) h
    split at h
    · cases h
    rename_i hnm
    split at h
    · cases h
    rename_i hcol
    refine hln hc _ _ _ ?_ (.inl (by simpa using hnm)) h
    cases r with
    | nil => exact her.elim
    | cons g r =>
      refine her.resolve_left fun h => hcol ?_
      simp [h.2.2]
theorem lines_okP : ∀ (n : Nat) (e : Int) (p q : Pg) (us : List Tk), us.length ≤ n → (∀ t ∈ us, Gd t) → (us ≠ [] → ∃ vs t, us = vs ++ [t] ∧ t.k = 4) → PgOk p → linesR e p us = .ok q → PgOk q ∧ compl q = true := by
  intro n
  induction n with
  | zero =>
    intro e p q us h _ _ hp hq
    obtain rfl : us = [] := List.length_eq_zero_iff.1 (by omega)
    rw [lines_nil] at hq
    split at hq
    · rename_i hc; injection hq with hq; subst hq; exact ⟨hp, hc⟩
    · cases hq
  | succ n ih =>
    intro e p q us h hg hf hp hq
    cases us with
    | nil =>
      rw [lines_nil] at hq
      split at hq
      · rename_i hc; injection hq with hq; subst hq; exact ⟨hp, hc⟩
      · cases hq
    | cons f r =>
      obtain ⟨vs, t, e1, e2⟩ := hf (by simp)
      have hk := find_lt (us := f :: r) (e := t) (by rw [e1]; simp) e2
      cases hx : addR p ((f :: r).take (cutAt (f :: r))) with
      | err a c => rw [lines_err hx] at hq; cases hq
      | ok p2 =>
        rw [lines_ok hx] at hq
        refine ih e p2 q _ (by simp [cutAt] at h ⊢; omega) (fun t ht => hg t (List.mem_of_mem_drop ht)) (fun hd => ?_) (addR_ok hp (ends_take hk hg) hx) hq
        rw [e1] at hd ⊢
        refine ⟨vs.drop (cutAt (vs ++ [t])), t, ?_, e2⟩
        rcases Nat.lt_or_ge (cutAt (vs ++ [t])) (vs ++ [t]).length with h5 | h5
        · rw [List.drop_append_of_le_length (by simp at h5; omega)]
        · exact (hd (List.drop_of_length_le h5)).elim
/-- What is read is a program as the document says. -/
theorem pz_flat {l : List UInt8} {q : Pg} (h : parseR l = .ok q) : PgOk q ∧ compl q = true := by
  cases hx : lexR l with
  | err a c => rw [pz_bad hx] at h; cases h
  | ok ts =>
    rw [pz_ok hx] at h
    have hg := lexR_gd hx
    refine lines_okP _ _ _ _ _ (Nat.le_refl _) (fun t ht => ?_) (fun _ => ⟨ts, _, rfl, rfl⟩) ⟨fun m hm => by simp at hm, fun i hi => by simp at hi, fun m hm => by simp at hm, by simp⟩ h
    rcases List.mem_append.1 ht with ht | ht
    · exact hg.1 t ht
    · simp at ht; subst ht; exact ⟨by simp, fun _ => rfl⟩
end Go.Proofs.YtbapgdhcbfpdoaaGreatDoor
/- Expressions in brackets, and behind others, and line by line: over plain lists. -/
namespace Go.Proofs.YtbapgdhcbfpdoaaGreatDoor
open Go.RowKit
def Plain (e : List UInt8) : Prop := ∀ c ∈ e, c.toNat ≠ 10 ∧ c.toNat ≠ 35
theorem zE_ok {x : Er} {y : List It} (h : zE x = .ok y) : ∃ l, x = .ok l ∧ l.map zI = y := by
  cases x with
  | ok l => injection h with h; exact ⟨l, rfl, h⟩
  | err a c => cases h
theorem zE_err {x : Er} {a c : Int} (h : zE x = .err a c) : ∃ a', x = .err a' c := by
  cases x with
  | ok l => cases h
  | err a' c' => injection h with _ h; subst h; exact ⟨a', rfl⟩
theorem expr_z (ts : List Tk) : zE (exprR ts) = exprR (ts.map zT) := mrun_z _ ts false [] [] (Nat.le_refl _)
theorem mv_z (d : Int) (E : List Tk) : (E.map (mv d)).map zT = E.map zT := by rw [List.map_map]; rfl
def en0 : Tk := ⟨4, 0, [], 0⟩
theorem find_none {A : List Tk} (h : ∀ t ∈ A, t.k ≠ 4) (e : Tk) (he : e.k = 4) (B : List Tk) : (A ++ e :: B).findIdx isEnd = A.length := by
  rw [List.findIdx_append, if_neg, List.findIdx_cons]
  · simp [isEnd, he]
  · rw [List.findIdx_eq_length_of_false (by intro t ht; simpa [isEnd] using h t ht)]; omega
theorem cut_one {A : List Tk} (h : ∀ t ∈ A, t.k ≠ 4) {e : Tk} (he : e.k = 4) (B : List Tk) : (A ++ e :: B).take (cutAt (A ++ e :: B)) = A ++ [e] ∧ (A ++ e :: B).drop (cutAt (A ++ e :: B)) = B := by
  unfold cutAt
  rw [find_none h e he B, show A ++ e :: B = (A ++ [e]) ++ B by simp]
  exact ⟨List.take_left' (by simp), List.drop_left' (by simp)⟩
theorem lines_one {A : List Tk} (h : ∀ t ∈ A, t.k ≠ 4) {e : Tk} (he : e.k = 4) (B : List Tk) (n : Int) (p : Pg) : linesR n p (A ++ e :: B) = match addR p (A ++ [e]) with
    | .err a c => .err a c
    | .ok q => linesR n q B := by
  obtain ⟨h1, h2⟩ := cut_one h he B
  cases hx : addR p (A ++ [e]) with
  | err a c =>
    cases A with
    | nil => exact lines_err (f := e) (r := B) (by rw [← List.nil_append (e :: B), h1]; exact hx)
    | cons f A => exact lines_err (f := f) (r := A ++ e :: B) (by rw [← List.cons_append, h1]; exact hx)
  | ok q =>
    cases A with
    | nil =>
      have := lines_ok (e := n) (f := e) (r := B) (by rw [← List.nil_append (e :: B), h1]; exact hx)
      rw [← List.nil_append (e :: B), h2] at this
      exact this
    | cons f A =>
      have := lines_ok (e := n) (f := f) (r := A ++ e :: B) (by rw [← List.cons_append, h1]; exact hx)
      rw [← List.cons_append, h2] at this
      exact this
def outT (a : Int) : Tk := ⟨1, a, [111, 117, 116], 0⟩
theorem addR_cons (p : Pg) (f : Tk) (r : List Tk) : addR p (f :: r) =
    if f.k = 4 then .ok p
    else if p.ins.length + p.lns.length = 64 then .err f.a 45
    else if 256 < r.length then .err ((f :: r).getD 256 default).a 45
    else if compl p then .err f.a 40
    else if f.w = [105, 110] then addInR p f r
    else if f.w = [111, 117, 116] then addLnR p [] f.a r
    else if nameB f.w = false then .err f.a 40
    else if (r.getD 0 default).w ≠ [58] then .err (r.getD 0 default).a 42
    else addLnR p f.w f.a (r.drop 1) := rfl
theorem add_outL {R : List Tk} {a : Int} {p : Pg} (hp : compl p = false) (hn : p.ins.length + p.lns.length ≠ 64) (e : Tk) : addR p (outT a :: R ++ [e]) = if 256 < R.length + 1 then .err ((outT a :: R ++ [e]).getD 256 default).a 45 else addLnR p [] a (R ++ [e]) := by
  rw [List.cons_append, addR_cons, if_neg (show ¬ (outT a).k = 4 by show ¬ (1 : Int) = 4; decide), if_neg hn, show (R ++ [e]).length = R.length + 1 by simp]
  split
  · rfl
  · rw [hp, if_neg (by decide), if_neg (show ¬ (outT a).w = [105, 110] by show ¬ ([111, 117, 116] : List UInt8) = [105, 110]; decide), if_pos (show (outT a).w = [111, 117, 116] from rfl)]
    rfl
/-- What a text with just one line says: an out, and an expression. -/
theorem lines_out {R : List Tk} (h : ∀ t ∈ R, t.k ≠ 4) {e : Tk} (he : e.k = 4) (a n : Int) : linesR n ⟨[], []⟩ (outT a :: R ++ [e]) = if 256 < R.length + 1 then .err ((outT a :: R ++ [e]).getD 256 default).a 45 else match exprR (R ++ [e]) with
    | .err a c => .err a c
    | .ok its => .ok ⟨[], [⟨[], a, its⟩]⟩ := by
  rw [lines_one (A := outT a :: R) (fun t ht => by
    rcases List.mem_cons.1 ht with rfl | ht
    · show (1 : Int) ≠ 4; decide
    · exact h t ht) he [] n, add_outL rfl (by decide) e]
  by_cases h256 : 256 < R.length + 1
  · rw [if_pos h256, if_pos h256]
  · rw [if_neg h256, if_neg h256]
    unfold addLnR
    cases exprR (R ++ [e]) with
    | err a c => rfl
    | ok its => simp only; rw [lines_nil]; rfl
def out4 : List UInt8 := [111, 117, 116, 32]
theorem piece_out (x : List UInt8) : piece 111 (117 :: 116 :: 32 :: x) = .tok 1 [111, 117, 116] 0 2 := (piece_app (hard_bl x) [117, 116] (.inl (by decide))).trans rfl
theorem lex_out (x : List UInt8) : lexL (out4 ++ x) 0 = Rs.pre [outT 0] (lexL x 4) := by
  show lexL (111 :: 117 :: 116 :: 32 :: x) 0 = _
  rw [lex_tok (piece_out x)]
  show Rs.pre _ (lexL (32 :: x) (0 + 1 + ((2 : Nat) : Int))) = _
  rw [lex_bl]; rfl
theorem lex_at4 {x : List UInt8} {ts : List Tk} (d : Int) (h : lexL x 0 = .ok ts) : lexL x d = .ok (ts.map (mv d)) := by rw [lex_from, h]; rfl
theorem lex_at_err {x : List UInt8} {p c : Int} (d : Int) (h : lexL x 0 = .err p c) : lexL x d = .err (p + d) c := by rw [lex_from, h]; rfl
theorem mv_k {d : Int} {E : List Tk} (h : ∀ t ∈ E, t.k ≠ 4) : ∀ t ∈ E.map (mv d), t.k ≠ 4 := fun t ht => by
  obtain ⟨u, hu, rfl⟩ := List.mem_map.1 ht; exact h u hu
/-- An expression's tokens, and what is read of them. -/
structure OutOk (e : List UInt8) (its : List It) (E : List Tk) : Prop where
  lex : lexL e 0 = .ok E
  len : E.length + 1 ≤ 256
  run : mrun (E.map zT ++ [en0]) false [] [] = .ok (its.map zI)
  k4 : ∀ t ∈ E, t.k ≠ 4
  tok : ∀ t ∈ E, Tok t
theorem mrun_open (r : List Tk) (a : Int) (l : List It) (s : List (Option It)) (hs : opens s ≠ 32) : mrun (⟨3, a, [40], 0⟩ :: r) false l s = mrun r false l (none :: s) := by
  rw [mrun_cons]
  show (if vb [40] = true then _ else _) = _
  rw [if_neg (by decide), if_pos rfl, if_neg (show ¬ (3 : Int) = 2 by decide)]
  show (if nameB [40] = true then _ else _) = _
  rw [if_neg (by decide), if_pos rfl, if_neg hs]
theorem mrun_close (r : List Tk) (a : Int) (l : List It) (s : List (Option It)) (hs : 0 < opens s) : mrun (⟨3, a, [41], 0⟩ :: r) true l s = mrun r true (settleL l s).1 (settleL l s).2 := by
  rw [mrun_cons]
  show (if vb [41] = true then _ else _) = _
  rw [if_neg (by decide), if_neg (by decide), if_neg (show ¬ (3 : Int) = 4 by decide), if_pos ⟨rfl, hs⟩]
theorem mrun_end (a : Int) (r : List Tk) (l : List It) (s : List (Option It)) (hs : opens s = 0) : mrun (⟨4, a, [], 0⟩ :: r) true l s = .ok (settleL l s).1 := by
  rw [mrun_cons]
  show (if vb [] = true then _ else _) = _
  rw [if_neg (by decide), if_neg (by decide), if_pos rfl, if_neg (by omega)]
def cl0 : Tk := ⟨3, 0, [41], 0⟩
def op0 : Tk := ⟨3, 0, [40], 0⟩
theorem cl_closes : closes cl0 := ⟨by decide, .inr rfl⟩
/-- In brackets. -/
theorem mrun_br {e : List UInt8} {its : List It} {E : List Tk} (h : OutOk e its E) (rest : List Tk) : (∃ a, mrun (op0 :: (E.map zT ++ cl0 :: rest)) false [] [] = .err a 44) ∨ mrun (op0 :: (E.map zT ++ cl0 :: rest)) false [] [] = mrun rest true (its.map zI) [] := by
  rw [show op0 = ⟨3, 0, [40], 0⟩ from rfl, mrun_open _ _ _ _ (by decide)]
  have hk : ∀ t ∈ E.map zT, t.k ≠ 4 := fun t ht => by obtain ⟨u, hu, rfl⟩ := List.mem_map.1 ht; exact h.k4 u hu
  rcases mrun_in _ (E.map zT) false [] [] en0 cl0 rest [] [none] (its.map zI) (Nat.le_refl _) ⟨rfl, rfl⟩ cl_closes ⟨by decide, by decide, by decide⟩ (by decide) hk h.run with ⟨h1, _⟩ | h1
  · left; exact h1
  · right
    rw [show ([] : List It) ++ [] = [] from rfl, show ([] : List (Option It)) ++ [none] = [none] from rfl] at h1
    rw [h1, show cl0 = ⟨3, 0, [41], 0⟩ from rfl, mrun_close _ _ _ _ (by decide)]
    rfl
theorem brackets {e : List UInt8} {its : List It} {E : List Tk} (hp : Plain e) (hlen : e.length ≤ 10000) (h : OutOk e its E) :
    (∃ a c, parseR (out4 ++ 40 :: (e ++ [41])) = .err a c ∧ (c = 44 ∨ c = 45)) ∨ ∃ l, parseR (out4 ++ 40 :: (e ++ [41])) = .ok ⟨[], [⟨[], 0, l⟩]⟩ ∧ l.map zI = its.map zI := by
  have h0 : (out4 ++ 40 :: (e ++ [41])).length ≤ 65536 := by simp [out4]; omega
  have hlx : lexL (e ++ [41]) 5 = .ok (E.map (mv 5) ++ [⟨3, 5 + e.length, [41], 0⟩]) := by
    rw [lex_beh _ e 5 [41] (Nat.le_refl _) (hard_cl []) (.inr fun c hc => (hp c hc).2), lex_at4 5 h.lex, lex_sgn piece_close, lex_nil]; rfl
  rw [pz_ok (ts := outT 0 :: ⟨3, 4, [40], 0⟩ :: (E.map (mv 5) ++ [⟨3, 5 + e.length, [41], 0⟩])) (by
    unfold lexR; rw [if_neg (by omega), lex_out, lex_sgn piece_open, show (4 : Int) + 1 = 5 from rfl, hlx]; rfl)]
  have hr := lines_out (R := ⟨3, 4, [40], 0⟩ :: (E.map (mv 5) ++ [⟨3, 5 + e.length, [41], 0⟩])) (e := ⟨4, (out4 ++ 40 :: (e ++ [41])).length, [], 0⟩) (fun t ht => by
    simp only [List.mem_cons, List.mem_append, List.not_mem_nil, or_false] at ht
    rcases ht with rfl | ht | rfl
    · show (3 : Int) ≠ 4; decide
    · exact mv_k h.k4 t ht
    · show (3 : Int) ≠ 4; decide) rfl 0 (out4 ++ 40 :: (e ++ [41])).length
  rw [hr]
  split
  · exact .inl ⟨_, _, rfl, .inr rfl⟩
  · have hz := expr_z ((⟨3, 4, [40], 0⟩ : Tk) :: (E.map (mv 5) ++ [(⟨3, 5 + e.length, [41], 0⟩ : Tk)]) ++ [(⟨4, (out4 ++ 40 :: (e ++ [41])).length, [], 0⟩ : Tk)])
    have hm : ((⟨3, 4, [40], 0⟩ : Tk) :: (E.map (mv 5) ++ [(⟨3, 5 + e.length, [41], 0⟩ : Tk)]) ++ [(⟨4, (out4 ++ 40 :: (e ++ [41])).length, [], 0⟩ : Tk)]).map zT = op0 :: (E.map zT ++ cl0 :: [en0]) := by
      rw [List.cons_append, List.map_cons, List.map_append, List.map_append, mv_z]; simp; exact ⟨rfl, rfl, rfl⟩
    rw [hm] at hz
    rcases mrun_br h [en0] with ⟨a, h1⟩ | h1
    · obtain ⟨a', h2⟩ := zE_err (hz.trans h1)
      rw [h2]
      exact .inl ⟨_, _, rfl, .inl rfl⟩
    · rw [show en0 = ⟨4, 0, [], 0⟩ from rfl, mrun_end _ _ _ _ rfl] at h1
      obtain ⟨l, h2, h3⟩ := zE_ok (hz.trans h1)
      rw [h2]
      exact .inr ⟨l, rfl, h3⟩
/-! ### a verb between -/
end Go.Proofs.YtbapgdhcbfpdoaaGreatDoor
/- Expressions, line by line: over plain lists. -/
namespace Go.Proofs.YtbapgdhcbfpdoaaGreatDoor
open Go.RowKit
end Go.Proofs.YtbapgdhcbfpdoaaGreatDoor
/- Empty lines, blanks and notes change nothing but places: over plain lists. -/
namespace Go.Proofs.YtbapgdhcbfpdoaaGreatDoor
open Go.RowKit
def zL (m : Ln) : Ln := ⟨m.nm, 0, m.its.map zI⟩
def zN (m : Inp) : Inp := { m with pl := 0 }
def zP (p : Pg) : Pg := ⟨p.ins.map zN, p.lns.map zL⟩
def zR : Pr → Pr
  | .ok p => .ok (zP p)
  | .err _ e => .err 0 e
theorem compl_z (p : Pg) : compl (zP p) = compl p := by
  unfold compl zP
  rw [List.getLast?_map]
  cases p.lns.getLast? with
  | none => rfl
  | some l => rfl
theorem zI_zI (l : List It) : (l.map zI).map zI = l.map zI := by rw [List.map_map]; rfl
theorem zL_zL (m : Ln) : zL m = zL (zL m) := by unfold zL; simp only [zI_zI]
theorem addLn_z (p : Pg) (nm : List UInt8) (pl : Int) (ts : List Tk) : zR (addLnR p nm pl ts) = zR (addLnR (zP p) nm 0 (ts.map zT)) := by
  have h := expr_z ts
  unfold addLnR
  cases hx : exprR ts with
  | err a e => rw [hx] at h; rw [← h]; rfl
  | ok l =>
    rw [hx] at h
    rw [← h]
    simp only [zR, zE, zP, Pr.ok.injEq, Pg.mk.injEq, List.map_map, List.map_append, List.map_cons, List.map_nil]
    refine ⟨rfl, ?_⟩
    rw [show zL ⟨nm, 0, l.map zI⟩ = zL ⟨nm, pl, l⟩ by unfold zL; simp only [zI_zI]]
    congr 1
    exact List.map_congr_left fun m _ => zL_zL m
theorem sides_z : ∀ (us : List Tk) (l : List (List UInt8 × Int)), (∃ a e, sidesR us l = .err a e ∧ sidesR (us.map zT) l = .err 0 e) ∨ ∃ x, sidesR us l = .ok x ∧ sidesR (us.map zT) l = .ok x
  | [], l => .inr ⟨l, rfl, rfl⟩
  | u :: us, l => by
    rw [List.map_cons, sidesR, sidesR]
    show (∃ a e, _ ∧ (if u.k ≠ 2 ∧ nameB u.w = false then Sr.err 0 41 else if l.length = 4 then Sr.err 0 45 else sidesR (us.map zT) (l ++ [(u.w, u.n)])) = _) ∨ ∃ x, _ ∧ (if u.k ≠ 2 ∧ nameB u.w = false then Sr.err 0 41 else if l.length = 4 then Sr.err 0 45 else sidesR (us.map zT) (l ++ [(u.w, u.n)])) = _
    split
    · exact .inl ⟨_, _, rfl, rfl⟩
    · split
      · exact .inl ⟨_, _, rfl, rfl⟩
      · exact sides_z us _
theorem addIn_z (p : Pg) (f : Tk) (r : List Tk) : zR (addInR p f r) = zR (addInR (zP p) (zT f) (r.map zT)) := by
  unfold addInR
  have hl : (zP p).lns.length = p.lns.length := by simp [zP]
  rw [hl]
  split
  · rfl
  · cases r with
    | nil => simp [zR, zP, List.map_map]; exact ⟨fun _ _ => rfl, fun m _ => zL_zL m⟩
    | cons t r =>
      simp only [List.map_cons]
      show zR (if t.k = 4 then _ else if nameB t.w = false then _ else _) = zR (if t.k = 4 then Pr.err 0 42 else if nameB t.w = false then Pr.err 0 41 else match sidesR (r.map zT).dropLast [] with
        | .err a e => .err a e
        | .ok sd => .ok ⟨(zP p).ins ++ [⟨t.w, 0, sd⟩], (zP p).lns⟩)
      split
      · rfl
      · split
        · rfl
        · rw [← List.map_dropLast]
          rcases sides_z r.dropLast [] with ⟨a, e, h1, h2⟩ | ⟨x, h1, h2⟩
          · rw [h1, h2]; rfl
          · rw [h1, h2]
            simp [zR, zP, List.map_map]
            exact ⟨⟨fun _ _ => rfl, rfl⟩, fun m _ => zL_zL m⟩
theorem getD_z (l : List Tk) (i : Nat) : (l.map zT).getD i default = zT (l.getD i default) := by
  rw [List.getD_eq_getElem?_getD, List.getD_eq_getElem?_getD, List.getElem?_map]
  cases l[i]? with
  | none => rfl
  | some t => rfl
theorem add_z (p : Pg) (ts : List Tk) : zR (addR p ts) = zR (addR (zP p) (ts.map zT)) := by
  have hid : zR (.ok p) = zR (.ok (zP p)) := by
    simp [zR, zP, List.map_map]; exact ⟨fun _ _ => rfl, fun m _ => zL_zL m⟩
  cases ts with
  | nil => exact hid
  | cons f r =>
    rw [List.map_cons, addR_cons, addR_cons]
    have hl : (zP p).ins.length + (zP p).lns.length = p.ins.length + p.lns.length := by simp [zP]
    rw [hl, compl_z, List.length_map, getD_z]
    show _ = zR (if f.k = 4 then Pr.ok (zP p) else if p.ins.length + p.lns.length = 64 then Pr.err 0 45 else if 256 < r.length then Pr.err ((zT f :: r.map zT).getD 256 default).a 45 else if compl p = true then Pr.err 0 40
      else if f.w = [105, 110] then addInR (zP p) (zT f) (r.map zT) else if f.w = [111, 117, 116] then addLnR (zP p) [] 0 (r.map zT) else if nameB f.w = false then Pr.err 0 40 else if (r.getD 0 default).w ≠ [58] then Pr.err 0 42 else addLnR (zP p) f.w 0 ((r.map zT).drop 1))
    split
    · exact hid
    split
    · rfl
    split
    · rfl
    split
    · rfl
    split
    · exact addIn_z p f r
    split
    · exact addLn_z p [] f.a r
    split
    · rfl
    split
    · rfl
    rw [← List.map_drop]
    exact addLn_z p f.w f.a (r.drop 1)
theorem add_alike {p q : Pg} {ts us : List Tk} (hp : zP p = zP q) (ht : ts.map zT = us.map zT) : zR (addR p ts) = zR (addR q us) := by rw [add_z p ts, add_z q us, hp, ht]
theorem zR_ok {x : Pr} {p : Pg} (h : zR x = .ok p) : ∃ q, x = .ok q ∧ zP q = p := by
  cases x with
  | ok q => injection h with h; exact ⟨q, rfl, h⟩
  | err a e => cases h
/-- Tokens with lines' ends more. -/
inductive Lk : List Tk → List Tk → Prop where
  | last {A B : List Tk} (h : A.map zT = B.map zT) (h4 : ∀ t ∈ A, t.k ≠ 4) : Lk A B
  | line {A B ts us : List Tk} {a b c d : Int} (h : A.map zT = B.map zT) (h4 : ∀ t ∈ A, t.k ≠ 4) (hr : Lk ts us) : Lk (A ++ ⟨4, a, [], 0⟩ :: ts) (B ++ ⟨4, b, [], 0⟩ :: ⟨4, c, [], 0⟩ :: ⟨4, d, [], 0⟩ :: us)
theorem no4_z {A B : List Tk} (h : A.map zT = B.map zT) (h4 : ∀ t ∈ A, t.k ≠ 4) : ∀ t ∈ B, t.k ≠ 4 := fun t ht => by
  have h1 : zT t ∈ A.map zT := by rw [h]; exact List.mem_map_of_mem ht
  obtain ⟨u, hu, e⟩ := List.mem_map.1 h1
  have h2 := h4 u hu
  have h3 : u.k = t.k := (congrArg (fun x : Tk => x.k) e : (zT u).k = (zT t).k)
  omega
theorem lines_skip (n : Int) (p : Pg) (a : Int) (B : List Tk) : linesR n p (⟨4, a, [], 0⟩ :: B) = linesR n p B := by
  have h := lines_one (A := []) (fun t ht => by simp at ht) (e := ⟨4, a, [], 0⟩) rfl B n p
  rw [List.nil_append] at h
  rw [h]
  rfl
theorem lk_lines {ts us : List Tk} (h : Lk ts us) : ∀ (n m : Int) (a b : Int) (p q : Pg), zP p = zP q → zR (linesR n p (ts ++ [⟨4, a, [], 0⟩])) = zR (linesR m q (us ++ [⟨4, b, [], 0⟩])) := by
  induction h with
  | @last A B h h4 =>
    intro n m a b p q hp
    rw [lines_one h4 rfl [] n p, lines_one (no4_z h h4) rfl [] m q]
    have hx := add_alike (p := p) (q := q) (ts := A ++ [⟨4, a, [], 0⟩]) (us := B ++ [⟨4, b, [], 0⟩]) hp (by rw [List.map_append, List.map_append, h]; rfl)
    cases hy : addR p (A ++ [⟨4, a, [], 0⟩]) with
    | err x e =>
      rw [hy] at hx
      cases hw : addR q (B ++ [⟨4, b, [], 0⟩]) with
      | err x' e' => rw [hw] at hx; exact hx
      | ok q' => rw [hw] at hx; cases hx
    | ok p' =>
      rw [hy] at hx
      cases hw : addR q (B ++ [⟨4, b, [], 0⟩]) with
      | err x' e' => rw [hw] at hx; cases hx
      | ok q' =>
        rw [hw] at hx
        simp only
        rw [lines_nil, lines_nil]
        have hpq : zP p' = zP q' := by injection hx
        rw [← compl_z p', ← compl_z q', hpq]
        split
        · exact hx
        · rfl
  | @line A B ts us x y z v h h4 hr ih =>
    intro n m a b p q hp
    rw [List.append_assoc, List.append_assoc, List.cons_append, List.cons_append, List.cons_append, List.cons_append]
    rw [lines_one h4 rfl _ n p, lines_one (no4_z h h4) rfl _ m q]
    have hx := add_alike (p := p) (q := q) (ts := A ++ [⟨4, x, [], 0⟩]) (us := B ++ [⟨4, y, [], 0⟩]) hp (by rw [List.map_append, List.map_append, h]; rfl)
    cases hy : addR p (A ++ [⟨4, x, [], 0⟩]) with
    | err c e =>
      rw [hy] at hx
      cases hw : addR q (B ++ [⟨4, y, [], 0⟩]) with
      | err x' e' => rw [hw] at hx; exact hx
      | ok q' => rw [hw] at hx; cases hx
    | ok p' =>
      rw [hy] at hx
      cases hw : addR q (B ++ [⟨4, y, [], 0⟩]) with
      | err x' e' => rw [hw] at hx; cases hx
      | ok q' =>
        rw [hw] at hx
        simp only
        rw [lines_skip, lines_skip]
        exact ih n m a b p' q' (by injection hx)
/-! ### texts -/
def tr (l : List UInt8) : List UInt8 := l.flatMap fun c => if c = 10 then [9, 35, 10, 10, 10] else [c]
theorem tr_plain {l : List UInt8} (h : ∀ c ∈ l, c.toNat ≠ 10) : tr l = l := by
  induction l with
  | nil => rfl
  | cons c l ih =>
    have hc : c ≠ 10 := fun e => h c (by simp) (by rw [e]; rfl)
    rw [tr, List.flatMap_cons, if_neg hc]
    exact congrArg (c :: ·) (ih fun d hd => h d (by simp [hd]))
theorem tr_app (a b : List UInt8) : tr (a ++ b) = tr a ++ tr b := List.flatMap_append
theorem tr_len (l : List UInt8) : (tr l).length ≤ 5 * l.length := by
  induction l with
  | nil => simp [tr]
  | cons c l ih =>
    rw [tr, List.flatMap_cons, List.length_append, List.length_cons]
    have : (if c = 10 then [(9 : UInt8), 35, 10, 10, 10] else [c]).length ≤ 5 := by split <;> simp
    unfold tr at ih
    omega
theorem split_nl (l : List UInt8) : (∀ c ∈ l, c.toNat ≠ 10) ∨ ∃ A B, l = A ++ 10 :: B ∧ ∀ c ∈ A, c.toNat ≠ 10 := by
  induction l with
  | nil => exact .inl fun c hc => by simp at hc
  | cons c l ih =>
    by_cases hc : c.toNat = 10
    · exact .inr ⟨[], l, by rw [show c = 10 from UInt8.toNat_inj.1 hc]; rfl, fun d hd => by simp at hd⟩
    · rcases ih with h | ⟨A, B, rfl, h⟩
      · exact .inl fun d hd => by
          rcases List.mem_cons.1 hd with rfl | hd
          · exact hc
          · exact h d hd
      · exact .inr ⟨c :: A, B, rfl, fun d hd => by
          rcases List.mem_cons.1 hd with rfl | hd
          · exact hc
          · exact h d hd⟩
theorem lex_tail : ∀ (n : Nat) (A : List UInt8) (a : Int), A.length ≤ n → (∀ c ∈ A, c.toNat ≠ 10) → lexL (A ++ [9, 35]) a = lexL A a := by
  have hempty : ∀ a : Int, lexL [9, 35] a = .ok [] := fun a => by
    rw [lex_tb, lex_skip (show piece 35 [] = .skip 0 from rfl), List.drop_zero, lex_nil]
  intro n
  induction n with
  | zero =>
    intro A a hA _
    obtain rfl : A = [] := List.length_eq_zero_iff.1 (by omega)
    rw [List.nil_append, hempty, lex_nil]
  | succ n ih =>
    intro A a hA h10
    cases A with
    | nil => rw [List.nil_append, hempty, lex_nil]
    | cons b r =>
      simp at hA
      have hd : ∀ k, ∀ c ∈ r.drop k, c.toNat ≠ 10 := fun k c hc => h10 c (List.mem_cons_of_mem _ (List.mem_of_mem_drop hc))
      by_cases h35 : b.toNat = 35
      · have hnote : ∀ y : List UInt8, (∀ c ∈ y, c.toNat ≠ 10) → lexL (b :: y) a = .ok [] := fun y hy => by
          have hb : blB b = false := by unfold blB; simp; omega
          have hp : piece b y = .skip (run nlB y) := by unfold piece; rw [hb, if_neg (by decide), if_pos h35]
          have hr : run nlB y = y.length := run_full _ _ (fun c hc => by unfold nlB; simpa using hy c hc)
          rw [lex_skip hp, hr, List.drop_length, lex_nil]
        rw [List.cons_append, hnote _ (fun c hc => by
          rcases List.mem_append.1 hc with hc | hc
          · exact h10 c (by simp [hc])
          · simp at hc; rcases hc with rfl | rfl <;> decide), hnote _ (fun c hc => h10 c (by simp [hc]))]
      · have hpa : piece b (r ++ [9, 35]) = piece b r := piece_app (hard_tb [35]) r (.inl h35)
        rw [List.cons_append]
        cases hp : piece b r with
        | skip k =>
          have hk := skip_le hp
          rw [lex_skip hp, lex_skip (hpa.trans hp), List.drop_append_of_le_length hk, ih _ _ (by rw [List.length_drop]; omega) (hd k)]
        | tok kd w v k =>
          have hk := piece_le hp
          rw [lex_tok hp, lex_tok (hpa.trans hp), List.drop_append_of_le_length hk, ih _ _ (by rw [List.length_drop]; omega) (hd k)]
        | bad e => rw [lex_bad hp, lex_bad (hpa.trans hp)]
theorem lex_shift (A : List UInt8) (a b : Int) : (∃ p q e, lexL A a = .err p e ∧ lexL A b = .err q e) ∨ ∃ x y, lexL A a = .ok x ∧ lexL A b = .ok y ∧ x.map zT = y.map zT := by
  cases h : lexL A 0 with
  | err p e => exact .inl ⟨_, _, e, lex_at_err a h, lex_at_err b h⟩
  | ok ts => exact .inr ⟨_, _, lex_at4 a h, lex_at4 b h, by rw [mv_z, mv_z]⟩
theorem lex_tr : ∀ (n : Nat) (l : List UInt8) (a b : Int), l.length ≤ n → (∃ p q e, lexL l a = .err p e ∧ lexL (tr l) b = .err q e) ∨ ∃ ts us, lexL l a = .ok ts ∧ lexL (tr l) b = .ok us ∧ Lk ts us := by
  intro n
  induction n with
  | zero =>
    intro l a b hl
    obtain rfl : l = [] := List.length_eq_zero_iff.1 (by omega)
    exact .inr ⟨[], [], lex_nil a, lex_nil b, .last rfl (fun t ht => by simp at ht)⟩
  | succ n ih =>
    intro l a b hl
    rcases split_nl l with h | ⟨A, B, rfl, h⟩
    · rw [tr_plain h]
      rcases lex_shift l a b with hx | ⟨x, y, h1, h2, h3⟩
      · exact .inl hx
      · exact .inr ⟨x, y, h1, h2, .last h3 ((lex_tokS _ l a (Nat.le_refl _) _ h1).2 h)⟩
    · rw [tr_app, tr_plain h, show tr (10 :: B) = 9 :: 35 :: 10 :: 10 :: 10 :: tr B from rfl]
      rw [show A ++ 9 :: 35 :: 10 :: 10 :: 10 :: tr B = (A ++ [9, 35]) ++ 10 :: 10 :: 10 :: tr B by simp]
      rw [lex_beh _ A a (10 :: B) (Nat.le_refl _) (hard_nl B).1 (.inl (hard_nl B).2), lex_beh _ (A ++ [9, 35]) b (10 :: 10 :: 10 :: tr B) (Nat.le_refl _) (hard_nl _).1 (.inl (hard_nl _).2), lex_tail _ A b (Nat.le_refl _) h]
      rw [lex_nl, lex_nl, lex_nl, lex_nl]
      rcases lex_shift A a b with ⟨p, q, e, h1, h2⟩ | ⟨x, y, h1, h2, h3⟩
      · rw [h1, h2]; exact .inl ⟨p, q, e, rfl, rfl⟩
      · rw [h1, h2]
        simp only [Rs.app]
        rcases ih B (a + A.length + 1) (b + (A ++ [9, 35]).length + 1 + 1 + 1) (by simp at hl; omega) with ⟨p, q, e, h4, h5⟩ | ⟨ts, us, h4, h5, h6⟩
        · rw [h4, h5]; exact .inl ⟨p, q, e, rfl, rfl⟩
        · rw [h4, h5]
          exact .inr ⟨_, _, rfl, rfl, .line h3 ((lex_tokS _ A a (Nat.le_refl _) _ h1).2 h) h6⟩
def preB : List UInt8 := [10, 32, 35, 32, 102, 105, 114, 115, 116, 10]
/-- Empty lines, blanks, notes. -/
theorem blanks {l : List UInt8} (hl : l.length ≤ 10000) : (∃ a b c, parseR l = .err a c ∧ parseR (preB ++ tr l) = .err b c) ∨ ∃ p q, parseR l = .ok p ∧ parseR (preB ++ tr l) = .ok q ∧ zP p = zP q := by
  have hlen := tr_len l
  have h1 : ¬ 65536 < l.length := by omega
  have h2 : ¬ 65536 < (preB ++ tr l).length := by rw [List.length_append]; show ¬ 65536 < 10 + _; omega
  have hpre : lexL (preB ++ tr l) 0 = Rs.pre [⟨4, 0, [], 0⟩, ⟨4, 9, [], 0⟩] (lexL (tr l) 10) := by
    show lexL (10 :: ([32, 35, 32, 102, 105, 114, 115, 116] ++ 10 :: tr l)) 0 = _
    rw [lex_nl, lex_beh _ [32, 35, 32, 102, 105, 114, 115, 116] _ (10 :: tr l) (Nat.le_refl _) (hard_nl _).1 (.inl (hard_nl _).2), lex_nl]
    have h0 : lexL [32, 35, 32, 102, 105, 114, 115, 116] (0 + 1) = .ok [] := by
      rw [← lexF_eq 10 _ _ (by decide)]; rfl
    rw [h0]
    simp only [Rs.app, pre_pre, List.nil_append, List.cons_append]
    rfl
  rcases lex_tr _ l 0 10 (Nat.le_refl _) with ⟨p, q, e, h3, h4⟩ | ⟨ts, us, h3, h4, h5⟩
  · refine .inl ⟨p, q, e, pz_bad (by unfold lexR; rw [if_neg h1, h3]), pz_bad (by unfold lexR; rw [if_neg h2, hpre, h4]; rfl)⟩
  · rw [pz_ok (by unfold lexR; rw [if_neg h1, h3]), pz_ok (ts := ⟨4, 0, [], 0⟩ :: ⟨4, 9, [], 0⟩ :: us) (by unfold lexR; rw [if_neg h2, hpre, h4]; rfl)]
    rw [List.cons_append, List.cons_append, lines_skip, lines_skip]
    have hz := lk_lines h5 l.length (preB ++ tr l).length l.length (preB ++ tr l).length ⟨[], []⟩ ⟨[], []⟩ rfl
    cases hx : linesR l.length ⟨[], []⟩ (ts ++ [⟨4, l.length, [], 0⟩]) with
    | err a c =>
      rw [hx] at hz
      cases hy : linesR (preB ++ tr l).length ⟨[], []⟩ (us ++ [⟨4, (preB ++ tr l).length, [], 0⟩]) with
      | err b c' => rw [hy] at hz; injection hz with _ hz; subst hz; exact .inl ⟨a, b, c, rfl, rfl⟩
      | ok q => rw [hy] at hz; cases hz
    | ok p =>
      rw [hx] at hz
      obtain ⟨q, h6, h7⟩ := zR_ok hz.symm
      exact .inr ⟨p, q, rfl, h6, h7.symm⟩
end Go.Proofs.YtbapgdhcbfpdoaaGreatDoor
