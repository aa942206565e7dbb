/- Layer 4, put together: ShwE, ShwF. -/
import Derived.Test.YtbapgdhcbfpdoaaDoorZSb
/- What is read may be shown, with no more tokens: programs. Pure. -/
namespace Go.Proofs.YtbapgdhcbfpdoaaDoor
open Go.RowKit
def exK (l : List It) : Nat := match runP l [] with
  | some [p] => p.tk
  | _ => 0
def lnK (m : Ln) : Nat := (if m.nm = [] then 1 else 2) + exK m.its + 1
def inK (x : Inp) : Nat := 3 + x.sd.length
def insK (l : List Inp) : Nat := (l.map inK).sum
def lnsK (l : List Ln) : Nat := (l.map lnK).sum
def pgK (p : Pg) : Nat := insK p.ins + lnsK p.lns
theorem insK_app (a b : List Inp) : insK (a ++ b) = insK a + insK b := by unfold insK; rw [List.map_append, List.sum_append]
theorem lnsK_app (a b : List Ln) : lnsK (a ++ b) = lnsK a + lnsK b := by unfold lnsK; rw [List.map_append, List.sum_append]
theorem seg_exK {l : List It} {p : Pt} {T : List Tk} (h : Seg l p T) : exK l = p.tk := by unfold exK; rw [seg_run h []]
def okD (d : List UInt8 × Int) : Prop := d.1 = [] ∨ (d.2 = 0 ∧ nameB d.1 = true)
def InR (x : Inp) : Prop := nameB x.nm = true ∧ x.sd.length ≤ 4 ∧ ∀ d ∈ x.sd, okD d
def LnR (m : Ln) : Prop := (m.nm = [] ∧ ∃ s, exprP m.its 1 = some s) ∨ (nameB m.nm = true ∧ ∃ s, exprP m.its 2 = some s)
def PgV (p : Pg) : Prop := (∀ x ∈ p.ins, InR x) ∧ ∀ m ∈ p.lns, LnR m
theorem sides_short : ∀ (us : List Tk) (l sd : List (List UInt8 × Int)), (∀ t ∈ us, Tok t) → (∀ t ∈ us, (t.k = 3 → wordB t.w = false)) → (∀ d ∈ l, okD d) → l.length ≤ 4 → sidesR us l = .ok sd → sd.length = l.length + us.length ∧ sd.length ≤ 4 ∧ ∀ d ∈ sd, okD d
  | [], l, sd, _, _, h2, h3, h => by rw [sidesR] at h; injection h with h; subst h; exact ⟨rfl, h3, h2⟩
  | t :: us, l, sd, h1, h1', h2, h3, h => by
    rw [sidesR] at h
    split at h
    · cases h
    rename_i hc
    split at h
    · cases h
    rename_i h4
    have ht := h1 t (by simp)
    have hd : okD (t.w, t.n) := by
      by_cases hk : t.k = 2
      · exact .inl (ht.2.2.1 hk)
      · have hn : nameB t.w = true := by
          cases e : nameB t.w with
          | true => rfl
          | false => exact (hc ⟨hk, e⟩).elim
        have hk1 : t.k = 1 ∨ t.k = 3 := by
          rcases ht.1 with h | h | h | h
          · exact .inl h
          · exact (hk h).elim
          · exact .inr h
          · have := (ht.2.1 h).1; rw [this] at hn; exact absurd hn (by decide)
        exact .inr ⟨(ht.2.2.2.1 hk1).2, hn⟩
    have := sides_short us (l ++ [(t.w, t.n)]) sd (fun x hx => h1 x (by simp [hx])) (fun x hx => h1' x (by simp [hx])) (fun d hd' => by
      rcases List.mem_append.1 hd' with h | h
      · exact h2 d h
      · simp only [List.mem_singleton] at h; subst h; exact hd) (by simp; omega) h
    simp only [List.length_append, List.length_cons, List.length_nil] at this ⊢
    exact ⟨by omega, this.2⟩
theorem add_short {p q : Pg} {ts : List Tk} (he : Ends ts) (h4 : E4 ts) (hT : ∀ t ∈ ts, Tok t ∧ (t.k = 3 → wordB t.w = false)) (h : addR p ts = .ok q) : pgK q ≤ pgK p + ts.length ∧ (PgV p → PgV q) := by
  have hln : ∀ (nm : List UInt8) (pl : Int) (us : List Tk) (k : Nat), Ends us → E4 us → us.length + k ≤ 257 → (nm = [] ∧ k = 1 ∨ nameB nm = true ∧ k = 2) → addLnR p nm pl us = .ok q → pgK q ≤ pgK p + us.length + k ∧ (PgV p → PgV q) := by
    intro nm pl us k hus h4us hl hnm h1
    unfold addLnR at h1
    split at h1
    · cases h1
    rename_i its h2
    injection h1 with h1
    subst h1
    obtain ⟨pt, T, i1, i2, i3, i4⟩ := expr_short (by omega) hus h4us h2
    refine ⟨?_, fun hv => ⟨hv.1, fun m hm => ?_⟩⟩
    · show insK p.ins + lnsK (p.lns ++ [⟨nm, pl, its⟩]) ≤ _
      rw [lnsK_app]
      have e : lnsK [⟨nm, pl, its⟩] = (if nm = [] then 1 else 2) + pt.tk + 1 := by
        unfold lnsK
        simp [lnK, seg_exK i1]
      rw [e]
      unfold pgK
      rcases hnm with ⟨h5, h6⟩ | ⟨h5, h6⟩
      · rw [if_pos h5]; omega
      · rw [if_neg (by rintro rfl; exact absurd h5 (by decide))]; omega
    · rcases List.mem_append.1 hm with hm | hm
      · exact hv.2 m hm
      · simp only [List.mem_singleton] at hm
        subst hm
        rcases hnm with ⟨h5, h6⟩ | ⟨h5, h6⟩
        · exact .inl ⟨h5, _, seg_exprP i1 (k := 1) (by omega) (by omega) i3⟩
        · exact .inr ⟨h5, _, seg_exprP i1 (k := 2) (by omega) (by omega) i3⟩
  unfold addR at h
  split at h
  · injection h with h; subst h; exact ⟨by omega, id⟩
  rename_i f r
  split at h
  · injection h with h; subst h; exact ⟨by omega, id⟩
  rename_i hk
  have her : Ends r := he.resolve_left fun h => hk h.2.1
  have h4r : E4 r := h4.suf (List.suffix_cons _ _)
  split at h
  · cases h
  split at h
  · cases h
  rename_i hl
  split at h
  · cases h
  split at h
  · unfold addInR at h
    split at h
    · cases h
    split at h
    · injection h with h; subst h; exact ⟨by omega, id⟩
    rename_i t r
    split at h
    · cases h
    rename_i htk
    split at h
    · cases h
    rename_i hnm
    split at h
    · cases h
    rename_i sd h2
    injection h with h
    subst h
    have hs := sides_short r.dropLast [] sd (fun x hx => (hT x (List.mem_cons_of_mem _ (List.mem_cons_of_mem _ (List.dropLast_subset _ hx)))).1) (fun x hx => (hT x (List.mem_cons_of_mem _ (List.mem_cons_of_mem _ (List.dropLast_subset _ hx)))).2) (fun d hd => by cases hd) (by simp) h2
    have her2 : Ends r := her.resolve_left fun h => htk h.2.1
    have hp := her2.pos
    simp only [List.length_dropLast, List.length_nil] at hs
    refine ⟨?_, fun hv => ⟨fun x hx => ?_, hv.2⟩⟩
    · show insK (p.ins ++ [⟨t.w, t.a, sd⟩]) + lnsK p.lns ≤ _
      rw [insK_app]
      have e : insK [⟨t.w, t.a, sd⟩] = 3 + sd.length := by unfold insK; simp [inK]
      rw [e]
      unfold pgK
      simp only [List.length_cons]
      omega
    · rcases List.mem_append.1 hx with hx | hx
      · exact hv.1 x hx
      · simp only [List.mem_singleton] at hx
        subst hx
        exact ⟨by simpa using hnm, hs.2.1, hs.2.2⟩
  split at h
  · have := hln [] f.a r 1 her h4r (by omega) (.inl ⟨rfl, rfl⟩) h
    simp only [List.length_cons]
    exact ⟨by omega, this.2⟩
  split at h
  · cases h
  rename_i hnm
  split at h
  · cases h
  rename_i hcol
  cases r with
  | nil => exact her.elim
  | cons g r =>
    have her2 : Ends r := her.resolve_left fun h => hcol (by simp [h.2.2])
    simp only [List.length_cons] at hl
    have := hln f.w f.a r 2 her2 (h4r.suf (List.suffix_cons _ _)) (by omega) (.inr ⟨by simpa using hnm, rfl⟩) h
    simp only [List.length_cons]
    exact ⟨by omega, this.2⟩
theorem lines_short : ∀ (n : Nat) (e : Int) (p q : Pg) (us : List Tk), us.length ≤ n → (∀ t ∈ us, Tok t ∧ (t.k = 3 → wordB t.w = false)) → (us ≠ [] → ∃ vs t, us = vs ++ [t] ∧ t.k = 4) → PgV p → linesR e p us = .ok q → PgV q ∧ pgK q ≤ pgK p + us.length := by
  intro n
  induction n with
  | zero =>
    intro e p q us h _ _ hp hq
    obtain rfl : us = [] := List.length_eq_zero_iff.1 (by omega)
    rw [lines_nil] at hq
    split at hq
    · injection hq with hq; subst hq; exact ⟨hp, by omega⟩
    · cases hq
  | succ n ih =>
    intro e p q us h hg hf hp hq
    cases us with
    | nil =>
      rw [lines_nil] at hq
      split at hq
      · injection hq with hq; subst hq; exact ⟨hp, by omega⟩
      · cases hq
    | cons f r =>
      obtain ⟨vs, t, e1, e2⟩ := hf (by simp)
      have hk := find_lt (us := f :: r) (e := t) (by rw [e1]; simp) e2
      have hgd : ∀ t ∈ f :: r, Gd t := fun t ht => tok_gd (hg t ht).1
      cases hx : addR p ((f :: r).take (cutAt (f :: r))) with
      | err a c => rw [lines_err hx] at hq; cases hq
      | ok p2 =>
        rw [lines_ok hx] at hq
        have ha := add_short (ends_take hk hgd) (fun t ht hk4 => ((hg t (List.mem_of_mem_take ht)).1.2.1 hk4).1) (fun t ht => hg t (List.mem_of_mem_take ht)) hx
        have hb := ih e p2 q _ (by simp [cutAt] at h ⊢; omega) (fun t ht => hg t (List.mem_of_mem_drop ht)) (fun hd => ?_) (ha.2 hp) hq
        · refine ⟨hb.1, ?_⟩
          have hlen : ((f :: r).take (cutAt (f :: r))).length + ((f :: r).drop (cutAt (f :: r))).length = (f :: r).length := by rw [← List.length_append, List.take_append_drop]
          have h6 : pgK p2 ≤ pgK p + ((f :: r).take (cutAt (f :: r))).length := ha.1
          have h7 := hb.2
          omega
        · rw [e1] at hd ⊢
          refine ⟨vs.drop (cutAt (vs ++ [t])), t, ?_, e2⟩
          rcases Nat.lt_or_ge (cutAt (vs ++ [t])) (vs ++ [t]).length with h5 | h5
          · rw [List.drop_append_of_le_length (by simp at h5; omega)]
          · exact (hd (List.drop_of_length_le h5)).elim
theorem lex_k3 {l : List UInt8} {ts : List Tk} (h : lexR l = .ok ts) : ∀ t ∈ ts, Tok t ∧ (t.k = 3 → wordB t.w = false) := by
  unfold lexR at h
  split at h
  · cases h
  · exact fun t ht => ⟨(lex_tokS _ l 0 (Nat.le_refl _) ts h).1 t ht, (lex_words _ l 0 (Nat.le_refl _) ts h t ht).2⟩
theorem pz_short {l : List UInt8} {q : Pg} (h : parseR l = .ok q) : ∃ ts, lexR l = .ok ts ∧ PgV q ∧ pgK q ≤ ts.length + 1 := by
  cases hx : lexR l with
  | err a c => rw [pz_bad hx] at h; cases h
  | ok ts =>
    rw [pz_ok hx] at h
    have := lines_short _ _ _ _ _ (Nat.le_refl _) (fun t ht => ?_) (fun _ => ⟨ts, _, rfl, rfl⟩) ⟨fun x hx => (by cases hx), fun x hx => (by cases hx)⟩ h
    · refine ⟨ts, rfl, this.1, ?_⟩
      have h2 := this.2
      simp only [List.length_append, List.length_cons, List.length_nil] at h2
      show pgK q ≤ _
      have h0 : pgK ⟨[], []⟩ = 0 := rfl
      omega
    · rcases List.mem_append.1 ht with ht | ht
      · exact lex_k3 hx t ht
      · simp only [List.mem_singleton] at ht
        subst ht
        exact ⟨⟨.inr (.inr (.inr rfl)), fun _ => ⟨rfl, rfl⟩, fun h => (by cases h), fun h => (by rcases h with h | h <;> cases h), (by simp)⟩, fun h => (by cases h)⟩
/-! ### the text of what is read -/
theorem sidesP_some : ∀ (sd : List (List UInt8 × Int)), (∀ d ∈ sd, okD d) → ∃ t, sidesP sd = some t
  | [], _ => ⟨[], rfl⟩
  | d :: r, h => by
    obtain ⟨t, ht⟩ := sidesP_some r fun x hx => h x (by simp [hx])
    unfold sidesP
    by_cases hn : d.1 = []
    · rw [if_pos hn, ht]; exact ⟨_, rfl⟩
    · rw [if_neg hn, if_pos ((h d (by simp)).resolve_left hn), ht]; exact ⟨_, rfl⟩
theorem insP_some : ∀ (xs : List Inp), (∀ x ∈ xs, InR x) → ∃ t, insP xs = some t
  | [], _ => ⟨[], rfl⟩
  | x :: r, h => by
    obtain ⟨t, ht⟩ := insP_some r fun y hy => h y (by simp [hy])
    obtain ⟨h1, h2, h3⟩ := h x (by simp)
    obtain ⟨u, hu⟩ := sidesP_some x.sd h3
    unfold insP inputP
    rw [if_neg (by rw [h1]; simp; omega), hu, ht]
    exact ⟨_, rfl⟩
theorem lnsP_some : ∀ (ls : List Ln), ls ≠ [] → (∀ m ∈ ls, LnR m) → (∀ i, (h : i < ls.length) → (nameB (ls[i]).nm = true ∨ (ls[i]).nm = [] ∧ i + 1 = ls.length)) → (∀ m, ls.getLast? = some m → m.nm = []) → ∃ t, lnsP ls = some t
  | [], h, _, _, _ => (h rfl).elim
  | [m], _, h, _, hl => by
    have hm := hl m rfl
    rcases h m (by simp) with ⟨_, s, hs⟩ | ⟨h2, _⟩
    · show ∃ t, (if m.nm = [] then (exprP m.its 1).map fun t => [111, 117, 116, 32] ++ t ++ [10] else none) = some t
      rw [if_pos hm, hs]; exact ⟨_, rfl⟩
    · rw [hm] at h2; exact absurd h2 (by decide)
  | m :: m2 :: r, _, h, hn, hl => by
    have h0 := hn 0 (by simp)
    have hnm : nameB m.nm = true := by
      rcases h0 with h0 | ⟨_, h0⟩
      · exact h0
      · simp at h0
    obtain ⟨t, ht⟩ := lnsP_some (m2 :: r) (by simp) (fun y hy => h y (by simp [hy])) (fun i hi => by
      have := hn (i + 1) (by simp at hi ⊢; omega)
      simp only [List.getElem_cons_succ, List.length_cons] at this ⊢
      rcases this with h1 | ⟨h1, h2⟩
      · exact .inl h1
      · exact .inr ⟨h1, by omega⟩) (fun y hy => hl y (by rw [List.getLast?_cons_cons]; exact hy))
    rcases h m (by simp) with ⟨h2, _⟩ | ⟨_, s, hs⟩
    · rw [h2] at hnm; exact absurd hnm (by decide)
    · show ∃ t, (if nameB m.nm = false then none else (exprP m.its 2).bind fun t => (lnsP (m2 :: r)).map fun u => m.nm ++ [58, 32] ++ t ++ 10 :: u) = some t
      rw [if_neg (by rw [hnm]; decide), hs, ht]; exact ⟨_, rfl⟩
/-- What is read may be. -/
theorem read_right {l : List UInt8} {q : Pg} (h : parseR l = .ok q) : ∃ s, textP q = some s := by
  obtain ⟨ts, _, hv, _⟩ := pz_short h
  obtain ⟨hp, hc⟩ := pz_flat h
  obtain ⟨hl, hlast⟩ := (compl_iff q).1 hc
  obtain ⟨t, ht⟩ := insP_some q.ins hv.1
  obtain ⟨u, hu⟩ := lnsP_some q.lns (by rintro e; rw [e] at hl; cases hl) hv.2 hp.nms (fun m hm => by
    rw [List.getLast?_eq_getElem?, List.getElem?_eq_getElem (by omega)] at hm
    injection hm with hm
    rw [← hm]; exact hlast)
  unfold textP
  have := hp.cnt
  rw [if_neg (by omega), ht, hu]
  exact ⟨_, rfl⟩
/-! ### how many tokens a text has -/
theorem ins_len : ∀ (xs : List Inp) (t : List UInt8), insP xs = some t → (∀ x ∈ xs, ∀ d ∈ x.sd, rng d.2) → ∀ (rest : List UInt8) (a : Int), ∃ TS, TS.length = insK xs ∧ lexL (t ++ rest) a = Rs.pre TS (lexL rest (a + t.length))
  | [], t, h, _, rest, a => by
    injection h with h
    subst h
    exact ⟨[], rfl, by rw [pre_nil]; simp⟩
  | x :: xs, t, h, hr, rest, a => by
    unfold insP at h
    obtain ⟨t1, h1, h2⟩ := Option.bind_eq_some_iff.1 h
    obtain ⟨t2, h3, rfl⟩ := Option.map_eq_some_iff.1 h2
    obtain ⟨i1, i2, i3, i4⟩ := inputP_ok h1 (hr x (by simp))
    obtain ⟨ts, hz, hlx⟩ := lex_ln i4 (t2 ++ rest) a
    obtain ⟨TS, j1, j2⟩ := ins_len xs t2 h3 (fun y hy => hr y (by simp [hy])) rest (a + t1.length + 1)
    have hl := congrArg List.length hz
    simp only [List.length_map, List.length_cons] at hl
    refine ⟨ts ++ [⟨4, a + t1.length, [], 0⟩] ++ TS, ?_, ?_⟩
    · have e : insK (x :: xs) = inK x + insK xs := by unfold insK; rw [List.map_cons, List.sum_cons]
      rw [e]
      simp only [List.length_append, List.length_cons, List.length_nil]
      unfold inK
      omega
    · rw [List.append_assoc, List.cons_append, hlx, j2, pre_pre, List.length_append, List.length_cons]
      congr 2
      omega
theorem lns_len : ∀ (ls : List Ln) (u : List UInt8), lnsP ls = some u → (∀ m ∈ ls, ∀ x ∈ m.its, ∀ n ∈ x.ns, rng n) → ∀ (a : Int), ∃ TS, TS.length = lnsK ls ∧ lexL u a = .ok TS
  | [], u, h, _, a => by cases h
  | [m], u, h, hr, a => by
    have h : (if m.nm = [] then (exprP m.its 1).map fun t => [111, 117, 116, 32] ++ t ++ [10] else none) = some u := h
    by_cases hm : m.nm = []
    · rw [if_pos hm] at h
      obtain ⟨t, h1, rfl⟩ := Option.map_eq_some_iff.1 h
      obtain ⟨p, T, hs, _, ht, hn, rfl⟩ := exprP_seg h1
      have hlx := lex_seg hs (hr m (by simp))
      have hout : LX [111, 117, 116] [outT 0] := LX.one rfl (by decide)
      have hall : LX ([111, 117, 116, 32] ++ p.s) (outT 0 :: T) := hout.cat hlx.bl (hard_bl _)
      obtain ⟨ts, hz, hl⟩ := lex_ln hall [] a
      rw [lex_nil] at hl
      have hlen := congrArg List.length hz
      simp only [List.length_map, List.length_cons] at hlen
      refine ⟨ts ++ [⟨4, a + ([111, 117, 116, 32] ++ p.s).length, [], 0⟩], ?_, ?_⟩
      · have e : lnsK [m] = 1 + p.tk + 1 := by unfold lnsK; simp [lnK, hm, seg_exK hs]
        rw [e, seg_len hs]
        simp only [List.length_append, List.length_cons, List.length_nil]
        omega
      · have e1 : [111, 117, 116, 32] ++ p.s ++ [10] = ([111, 117, 116, 32] ++ p.s) ++ 10 :: [] := rfl
        rw [e1, hl]
        simp [Rs.pre]
    · rw [if_neg hm] at h; cases h
  | m :: m2 :: r, u, h, hr, a => by
    have h : (if nameB m.nm = false then none else (exprP m.its 2).bind fun t => (lnsP (m2 :: r)).map fun u => m.nm ++ [58, 32] ++ t ++ 10 :: u) = some u := h
    by_cases hm : nameB m.nm = false
    · rw [if_pos hm] at h; cases h
    rw [if_neg hm] at h
    have hm : nameB m.nm = true := by simpa using hm
    obtain ⟨t, h1, h2⟩ := Option.bind_eq_some_iff.1 h
    obtain ⟨u2, h3, rfl⟩ := Option.map_eq_some_iff.1 h2
    obtain ⟨p, T, hs, _, ht, hn, rfl⟩ := exprP_seg h1
    have hlx := lex_seg hs (hr m (by simp))
    have hcl : LX [58] [⟨3, 0, [58], 0⟩] := LX.one rfl (by decide)
    have hall : LX (m.nm ++ [58, 32] ++ p.s) (⟨1, 0, m.nm, 0⟩ :: ⟨3, 0, [58], 0⟩ :: T) := by
      have := (lx_name (name_word hm)).cat (hcl.cat hlx.bl (hard_bl _)) (hard_sg (by decide) (by decide) (by decide) _)
      simpa [List.append_assoc] using this
    obtain ⟨ts, hz, hl⟩ := lex_ln hall u2 a
    have hlen := congrArg List.length hz
    simp only [List.length_map, List.length_cons] at hlen
    obtain ⟨TS, j1, j2⟩ := lns_len (m2 :: r) u2 h3 (fun y hy => hr y (by simp [hy])) (a + (m.nm ++ [58, 32] ++ p.s).length + 1)
    refine ⟨ts ++ [⟨4, a + (m.nm ++ [58, 32] ++ p.s).length, [], 0⟩] ++ TS, ?_, by rw [hl, j2]; rfl⟩
    have e : lnsK (m :: m2 :: r) = lnK m + lnsK (m2 :: r) := by unfold lnsK; rw [List.map_cons, List.sum_cons]
    have hne : m.nm ≠ [] := by rintro e; rw [e] at hm; exact absurd hm (by decide)
    have e2 : lnK m = 2 + p.tk + 1 := by unfold lnK; rw [if_neg hne, seg_exK hs]
    rw [e, e2, seg_len hs]
    simp only [List.length_append, List.length_cons, List.length_nil]
    omega
theorem text_len {p : Pg} {s : List UInt8} (h : textP p = some s) (hr : PgR p) : ∃ TS, lexL s 0 = .ok TS ∧ TS.length = pgK p := by
  unfold textP at h
  split at h
  · cases h
  obtain ⟨t, h1, h2⟩ := Option.bind_eq_some_iff.1 h
  obtain ⟨u, h3, rfl⟩ := Option.map_eq_some_iff.1 h2
  obtain ⟨US, k1, k2⟩ := lns_len p.lns u h3 hr.1 (0 + t.length)
  obtain ⟨TS, j1, j2⟩ := ins_len p.ins t h1 hr.2 u 0
  refine ⟨TS ++ US, by rw [j2, k2]; rfl, by rw [List.length_append, j1, k1]; rfl⟩
/-- No more tokens than any text that is read as it. -/
theorem read_short {l s : List UInt8} {q : Pg} (h : parseR l = .ok q) (hs : textP q = some s) (hr : PgR q) : ∃ a b, lexL (l ++ [10]) 0 = .ok a ∧ lexL s 0 = .ok b ∧ b.length ≤ a.length := by
  obtain ⟨ts, hx, _, hk⟩ := pz_short h
  obtain ⟨b, hb1, hb2⟩ := text_len hs hr
  have hx0 : lexL l 0 = .ok ts := by
    unfold lexR at hx
    split at hx
    · cases hx
    · exact hx
  have := lex_join hx0 (lex_nil 0)
  exact ⟨_, b, this, hb1, by simp; omega⟩
end Go.Proofs.YtbapgdhcbfpdoaaDoor
/- Texts hang on no places; what the laws ask. Pure. -/
namespace Go.Proofs.YtbapgdhcbfpdoaaDoor
open Go.RowKit
theorem stepP_z (st : List Pt) (x : It) : stepP st (zI x) = stepP st x := rfl
theorem runP_z : ∀ (l : List It) (st : List Pt), runP (l.map zI) st = runP l st
  | [], _ => rfl
  | x :: l, st => by
    show (stepP st (zI x)).bind (runP (l.map zI)) = (stepP st x).bind (runP l)
    rw [stepP_z, funext fun s => runP_z l s]
theorem exprP_z (l : List It) (k : Nat) : exprP (l.map zI) k = exprP l k := by
  unfold exprP
  rw [List.length_map, runP_z]
theorem insP_z : ∀ l : List Inp, insP (l.map zN) = insP l
  | [] => rfl
  | x :: l => by
    show (inputP (zN x)).bind (fun t => (insP (l.map zN)).map fun u => t ++ 10 :: u) = _
    rw [insP_z l]; rfl
theorem lnsP_z : ∀ l : List Ln, lnsP (l.map zL) = lnsP l
  | [] => rfl
  | [m] => by
    show (if m.nm = [] then (exprP (m.its.map zI) 1).map fun t => [111, 117, 116, 32] ++ t ++ [10] else none) = _
    rw [exprP_z]; rfl
  | m :: m2 :: r => by
    show (if nameB m.nm = false then none else (exprP (m.its.map zI) 2).bind fun t => (lnsP ((m2 :: r).map zL)).map fun u => m.nm ++ [58, 32] ++ t ++ 10 :: u) = _
    rw [exprP_z, lnsP_z (m2 :: r)]; rfl
theorem textP_z (p : Pg) : textP (zP p) = textP p := by
  unfold textP zP
  simp only [List.length_map, insP_z, lnsP_z]
theorem textP_alike {p q : Pg} (h : zP p = zP q) : textP p = textP q := by rw [← textP_z p, h, textP_z]
theorem showP_alike {p q : Pg} (h : zP p = zP q) : showP p = showP q := by unfold showP; rw [textP_alike h]
theorem showP_ok {p : Pg} {s : List UInt8} (h : showP p = (s, 0)) : textP p = some s ∧ s.length ≤ 65536 := by
  unfold showP at h
  split at h
  · cases h
  · rename_i t ht
    split at h
    · cases h
    · injection h with h1 h2
      subst h1
      exact ⟨ht, by omega⟩
theorem showP_cases (p : Pg) : (textP p = none ∧ showP p = ([], 50)) ∨ (∃ s, textP p = some s ∧ 65536 < s.length ∧ showP p = ([], 30)) ∨ ∃ s, textP p = some s ∧ s.length ≤ 65536 ∧ showP p = (s, 0) := by
  unfold showP
  cases h : textP p with
  | none => exact .inl ⟨rfl, rfl⟩
  | some s =>
    simp only
    by_cases hl : 65536 < s.length
    · rw [if_pos hl]; exact .inr (.inl ⟨s, rfl, hl, rfl⟩)
    · rw [if_neg hl]; exact .inr (.inr ⟨s, rfl, by omega, rfl⟩)
/-- P5.2. -/
theorem unlike {p q : Pg} {s t : List UInt8} (hp : showP p = (s, 0)) (hq : showP q = (t, 0)) (rp : PgR p) (rq : PgR q) : s = t ↔ zP p = zP q := by
  obtain ⟨h1, h2⟩ := showP_ok hp
  obtain ⟨h3, h4⟩ := showP_ok hq
  constructor
  · rintro rfl
    obtain ⟨x, hx, ex⟩ := show_back h1 rp h2
    obtain ⟨y, hy, ey⟩ := show_back h3 rq h4
    rw [hx] at hy
    injection hy with hy
    rw [← ex, ← ey, hy]
  · intro h
    have := textP_alike h
    rw [h1, h3] at this
    injection this
/-- P5.3. -/
theorem read_show {l : List UInt8} {p : Pg} (h : parseR l = .ok p) (hr : PgR p) : (∃ s, textP p = some s ∧ 65536 < s.length ∧ showP p = ([], 30)) ∨ ∃ s q, showP p = (s, 0) ∧ parseR s = .ok q ∧ zP q = zP p ∧ showP q = (s, 0) := by
  obtain ⟨s, hs⟩ := read_right h
  rcases showP_cases p with ⟨h1, _⟩ | h1 | ⟨s', h1, h2, h3⟩
  · rw [h1] at hs; cases hs
  · exact .inl h1
  · obtain ⟨q, hq, hz⟩ := show_back h1 hr h2
    exact .inr ⟨s', q, h3, hq, hz, by rw [showP_alike hz, h3]⟩
theorem right_empty : textP ⟨[], []⟩ = none := rfl
/-- Numbers that are lexed are in range. -/
theorem numR_rng {neg : Bool} {ds : List UInt8} {v : Int} (h : numR neg ds = some v) : rng v := by
  unfold numR at h
  unfold rng
  split at h
  · split at h
    · injection h with h; omega
    · cases h
  · split at h
    · injection h with h; omega
    · cases h
theorem piece_rng {b : UInt8} {r : List UInt8} {kd v : Int} {w : List UInt8} {k : Nat} (h : piece b r = .tok kd w v k) : rng v := by
  have hnum : ∀ {neg : Bool} {ds : List UInt8} {j : Nat}, numP (numR neg ds) j = .tok kd w v k → rng v := by
    intro neg ds j hp
    cases hn : numR neg ds with
    | none => rw [hn] at hp; cases hp
    | some x =>
      rw [hn] at hp
      injection hp with _ _ h3
      subst h3
      exact numR_rng hn
  have hz : rng 0 := by unfold rng; omega
  unfold piece at h
  split at h
  · cases h
  split at h
  · cases h
  split at h
  · injection h with _ _ h3; subst h3; exact hz
  split at h
  · split at h
    · cases h
    · injection h with _ _ h3; subst h3; exact hz
  split at h
  · exact hnum h
  split at h
  · exact hnum h
  split at h
  · injection h with _ _ h3; subst h3; exact hz
  split at h
  · injection h with _ _ h3; subst h3; exact hz
  · cases h
theorem lex_rng : ∀ (n : Nat) (l : List UInt8) (a : Int), l.length ≤ n → ∀ ts, lexL l a = .ok ts → ∀ t ∈ ts, rng t.n := by
  intro n
  induction n with
  | zero =>
    intro l a hl ts h
    obtain rfl : l = [] := List.length_eq_zero_iff.1 (by omega)
    rw [lex_nil] at h; injection h with h; subst h
    exact fun t ht => by simp at ht
  | succ n ih =>
    intro l a hl ts h
    cases l with
    | nil => rw [lex_nil] at h; injection h with h; subst h; exact fun t ht => by simp at ht
    | cons b r =>
      simp at hl
      cases hp : piece b r with
      | skip k =>
        rw [lex_skip hp] at h
        exact ih _ _ (by rw [List.length_drop]; omega) _ h
      | tok kd w v k =>
        rw [lex_tok hp] at h
        obtain ⟨vs, hv, rfl⟩ := pre_ok h
        have h1 := ih _ _ (by rw [List.length_drop]; omega) _ hv
        intro t ht
        simp only [List.cons_append, List.nil_append, List.mem_cons] at ht
        rcases ht with rfl | ht
        · exact piece_rng hp
        · exact h1 t ht
      | bad e => rw [lex_bad hp] at h; cases h
theorem nums_mem (r : List Tk) : ∀ n ∈ numsOf r, ∃ t ∈ r, t.n = n := by
  intro n hn
  obtain ⟨t, ht, rfl⟩ := List.mem_map.1 hn
  exact ⟨t, (List.takeWhile_sublist _).subset ht, rfl⟩
/-- All numbers of what is read are. -/
theorem mrun_rng : ∀ (n : Nat) (ts : List Tk) (b : Bool) (l : List It) (s : List (Option It)) (x : List It), ts.length ≤ n → (∀ t ∈ ts, rng t.n) → (∀ y ∈ l, ∀ k ∈ y.ns, rng k) → (∀ y ∈ s, ∀ z, y = some z → ∀ k ∈ z.ns, rng k) → mrun ts b l s = .ok x → ∀ y ∈ x, ∀ k ∈ y.ns, rng k := by
  intro n
  induction n with
  | zero =>
    intro ts b l s x hl _ h1 h2 h
    obtain rfl : ts = [] := List.length_eq_zero_iff.1 (by omega)
    rw [mrun] at h
    injection h with h; subst h; exact h1
  | succ n ih =>
    intro ts b l s x hl ht h1 h2 h
    cases ts with
    | nil => rw [mrun] at h; injection h with h; subst h; exact h1
    | cons t r =>
      simp only [List.length_cons] at hl
      have hset := settle_all (P := fun y => ∀ k ∈ y.ns, rng k) s l h1 h2
      have htr : ∀ u ∈ r, rng u.n := fun u hu => ht u (by simp [hu])
      rw [mrun_cons] at h
      split at h
      · split at h
        · cases h
        · have := mk_len r
          exact ih _ _ _ _ _ (by omega) (fun u hu => htr u ((mk_suf r).subset hu)) h1 (fun y hy z hz => by
            rcases List.mem_cons.1 hy with rfl | hy
            · injection hz with hz; subst hz; intro k hk; cases hk
            · exact h2 y hy z hz) h
      split at h
      · split at h
        · have := past_len r
          exact ih _ _ _ _ _ (by omega) (fun u hu => htr u ((past_suf r).subset hu)) (fun y hy => by
            rcases List.mem_append.1 hy with hy | hy
            · exact h1 y hy
            · simp only [List.mem_singleton] at hy
              subst hy
              intro k hk
              rcases List.mem_cons.1 hk with rfl | hk
              · exact ht t (by simp)
              · obtain ⟨u, hu, rfl⟩ := nums_mem r k hk
                exact htr u hu) h2 h
        split at h
        · exact ih _ _ _ _ _ (by omega) htr (fun y hy => by
            rcases List.mem_append.1 hy with hy | hy
            · exact h1 y hy
            · simp only [List.mem_singleton] at hy
              subst hy
              intro k hk; cases hk) h2 h
        split at h
        · split at h
          · cases h
          · exact ih _ _ _ _ _ (by omega) htr h1 (fun y hy z hz => by
              rcases List.mem_cons.1 hy with rfl | hy
              · cases hz
              · exact h2 y hy z hz) h
        split at h <;> cases h
      split at h
      · split at h
        · cases h
        · injection h with h; subst h; exact hset.1
      split at h
      · exact ih _ _ _ _ _ (by omega) htr hset.1 hset.2 h
      · cases h
theorem expr_rng {ts : List Tk} {x : List It} (h : exprR ts = .ok x) (ht : ∀ t ∈ ts, rng t.n) : ∀ y ∈ x, ∀ k ∈ y.ns, rng k := mrun_rng _ ts false [] [] x (Nat.le_refl _) ht (fun y hy => by cases hy) (fun y hy => by cases hy) h
theorem sides_rng : ∀ (us : List Tk) (l sd : List (List UInt8 × Int)), (∀ t ∈ us, rng t.n) → (∀ d ∈ l, rng d.2) → sidesR us l = .ok sd → ∀ d ∈ sd, rng d.2
  | [], l, sd, _, h2, h => by rw [sidesR] at h; injection h with h; subst h; exact h2
  | t :: us, l, sd, h1, h2, h => by
    rw [sidesR] at h
    split at h
    · cases h
    split at h
    · cases h
    exact sides_rng us _ sd (fun x hx => h1 x (by simp [hx])) (fun d hd => by
      rcases List.mem_append.1 hd with hd | hd
      · exact h2 d hd
      · simp only [List.mem_singleton] at hd; subst hd; exact h1 t (by simp)) h
theorem add_rng {p q : Pg} {ts : List Tk} (ht : ∀ t ∈ ts, rng t.n) (hp : PgR p) (h : addR p ts = .ok q) : PgR q := by
  have hln : ∀ (nm : List UInt8) (pl : Int) (us : List Tk), (∀ t ∈ us, rng t.n) → addLnR p nm pl us = .ok q → PgR q := by
    intro nm pl us hu h1
    unfold addLnR at h1
    split at h1
    · cases h1
    rename_i its h2
    injection h1 with h1
    subst h1
    refine ⟨fun m hm => ?_, hp.2⟩
    rcases List.mem_append.1 hm with hm | hm
    · exact hp.1 m hm
    · simp only [List.mem_singleton] at hm; subst hm; exact expr_rng h2 hu
  unfold addR at h
  split at h
  · injection h with h; subst h; exact hp
  rename_i f r
  have hr : ∀ t ∈ r, rng t.n := fun t h => ht t (by simp [h])
  split at h
  · injection h with h; subst h; exact hp
  rename_i hk
  split at h
  · cases h
  rename_i hcc
  split at h
  · cases h
  rename_i hl
  split at h
  · cases h
  rename_i hcp
  split at h
  · rename_i hin
    unfold addInR at h
    split at h
    · cases h
    rename_i hpl
    split at h
    · injection h with h; subst h; exact hp
    rename_i t r
    split at h
    · cases h
    split at h
    · cases h
    split at h
    · cases h
    rename_i sd h2
    injection h with h
    subst h
    refine ⟨hp.1, fun x hx => ?_⟩
    rcases List.mem_append.1 hx with hx | hx
    · exact hp.2 x hx
    · simp only [List.mem_singleton] at hx
      subst hx
      exact sides_rng r.dropLast [] sd (fun t h => hr t (List.mem_cons_of_mem _ (List.dropLast_subset _ h))) (fun d hd => by cases hd) h2
  split at h
  · exact hln _ _ _ hr h
  split at h
  · cases h
  split at h
  · cases h
  exact hln _ _ _ (fun t h => hr t (List.mem_of_mem_drop h)) h
theorem lines_rng : ∀ (n : Nat) (e : Int) (p q : Pg) (us : List Tk), us.length ≤ n → (∀ t ∈ us, rng t.n) → PgR p → linesR e p us = .ok q → PgR q := by
  intro n
  induction n with
  | zero =>
    intro e p q us h _ hp hq
    obtain rfl : us = [] := List.length_eq_zero_iff.1 (by omega)
    rw [lines_nil] at hq
    split at hq
    · injection hq with hq; subst hq; exact hp
    · cases hq
  | succ n ih =>
    intro e p q us h hg hp hq
    cases us with
    | nil =>
      rw [lines_nil] at hq
      split at hq
      · injection hq with hq; subst hq; exact hp
      · cases hq
    | cons f r =>
      cases hx : addR p ((f :: r).take (cutAt (f :: r))) with
      | err a c => rw [lines_err hx] at hq; cases hq
      | ok p2 =>
        rw [lines_ok hx] at hq
        exact ih e p2 q _ (by simp [cutAt] at h ⊢; omega) (fun t ht => hg t (List.mem_of_mem_drop ht)) (add_rng (fun t ht => hg t (List.mem_of_mem_take ht)) hp hx) hq
/-- What is read has numbers in range. -/
theorem pz_rng {l : List UInt8} {q : Pg} (h : parseR l = .ok q) : PgR q := by
  cases hx : lexR l with
  | err a c => rw [pz_bad hx] at h; cases h
  | ok ts =>
    rw [pz_ok hx] at h
    have hx0 : lexL l 0 = .ok ts := by
      unfold lexR at hx
      split at hx
      · cases hx
      · exact hx
    refine lines_rng _ _ _ _ _ (Nat.le_refl _) (fun t ht => ?_) ⟨fun m hm => (by cases hm), fun x hx => (by cases hx)⟩ h
    rcases List.mem_append.1 ht with ht | ht
    · exact lex_rng _ l 0 (Nat.le_refl _) ts hx0 t ht
    · simp only [List.mem_singleton] at ht
      subst ht
      show rng 0
      unfold rng; omega
end Go.Proofs.YtbapgdhcbfpdoaaDoor
