/- Layer 4, put together: ParRn, ParRo, ParZa, ParZb. -/
import Derived.Test.YthdognmppbckbaaDoorZPm
import Derived.Test.YthdognmppbckbaaDoorZLf
import Derived.Test.YthdognmppbckbaaDoorZPn
import Derived.Test.YthdognmppbckbaaDoorZPo
import Derived.Test.YthdognmppbckbaaDoorZPp
import Derived.Test.YthdognmppbckbaaDoorZPg
/- A line's tokens, as the document's reader goes through them; what lexed words are. Pure. -/
namespace Go.Proofs.YthdognmppbckbaaDoor
open Go.RowKit
/-- What is left of a line, from I on, with the line's end. -/
def tl (T : List Tk) (E : Int) (I : Nat) : List Tk := T.drop I ++ [⟨4, E, [], 0⟩]
/-- What the tokens of a line are like. -/
structure LT (T : List Tk) : Prop where
  k4 : ∀ t ∈ T, t.k ≠ 4
  k2 : ∀ t ∈ T, t.k = 2 → t.w = []
  kw : ∀ t ∈ T, t.w ≠ [] → t.k = 1 ∨ t.k = 3
  k1 : ∀ t ∈ T, t.k = 1 → wordB t.w = true
  k3 : ∀ t ∈ T, t.k = 3 → wordB t.w = false
  len : ∀ t ∈ T, t.w.length ≤ 16
theorem getD_mem {T : List Tk} {I : Nat} (h : I < T.length) : T.getD I default ∈ T := by
  rw [List.getD_eq_getElem?_getD, List.getElem?_eq_getElem h]; exact List.getElem_mem h
theorem tl_cons {T : List Tk} {E : Int} {I : Nat} (h : I < T.length) : tl T E I = T.getD I default :: tl T E (I + 1) := by
  unfold tl
  rw [List.drop_eq_getElem_cons h, List.getD_eq_getElem?_getD, List.getElem?_eq_getElem h]; rfl
theorem tl_end {T : List Tk} {E : Int} {I : Nat} (h : T.length ≤ I) : tl T E I = [⟨4, E, [], 0⟩] := by
  unfold tl
  rw [List.drop_eq_nil_of_le h]; rfl
theorem tl_len (T : List Tk) (E : Int) (I : Nat) : (tl T E I).length = T.length - I + 1 := by unfold tl; simp
theorem tl_inj {T : List Tk} {E : Int} {I J n : Nat} (hn : T.length = n) (h : tl T E J = tl T E I) (hI : I ≤ n) (hJ : J ≤ n) : I = J := by
  have := congrArg List.length h
  rw [tl_len, tl_len] at this
  omega
theorem tl_ends (T : List Tk) (E : Int) (I : Nat) : Ends (tl T E I) := Ends.snoc _ _ rfl rfl
/-- Is there a mark? -/
def mkd (T : List Tk) (I : Nat) : Prop := I < T.length ∧ ((T.getD I default).w = [47] ∨ (T.getD I default).w = [92] ∨ (T.getD I default).w = [46])
theorem mk_c (t : Tk) (r : List Tk) : mk (t :: r) = if t.w = [47] ∨ t.w = [92] ∨ t.w = [46] then (t.w, r) else ([], t :: r) := rfl
theorem mk_yes {T : List Tk} {E : Int} {I : Nat} (h : mkd T I) : mk (tl T E I) = ((T.getD I default).w, tl T E (I + 1)) := by
  rw [tl_cons h.1, mk_c, if_pos h.2]
theorem mk_no {T : List Tk} {E : Int} {I : Nat} (h : ¬ mkd T I) : mk (tl T E I) = ([], tl T E I) := by
  rcases Nat.lt_or_ge I T.length with h1 | h1
  · rw [tl_cons h1, mk_c, if_neg fun h2 => h ⟨h1, h2⟩]
  · rw [tl_end h1, mk_c, if_neg (by simp)]
theorem pn_num {t : Tk} {r : List Tk} (h : t.k = 2) : pastNums (t :: r) = pastNums r := by simp [pastNums, isNum, h]
theorem pn_not {t : Tk} {r : List Tk} (h : t.k ≠ 2) : pastNums (t :: r) = t :: r := by simp [pastNums, isNum, h]
theorem nn_num {t : Tk} {r : List Tk} (h : t.k = 2) : numsOf (t :: r) = t.n :: numsOf r := by simp [numsOf, isNum, h]
theorem nn_not {t : Tk} {r : List Tk} (h : t.k ≠ 2) : numsOf (t :: r) = [] := by simp [numsOf, isNum, h]
theorem name_word {w : List UInt8} (h : nameB w = true) : wordB w = true := by
  unfold nameB at h
  simp only [Bool.and_eq_true] at h
  exact h.1.1.1
theorem LT.name {T : List Tk} (h : LT T) {t : Tk} (ht : t ∈ T) (hn : nameB t.w = true) : t.k = 1 := by
  have h1 := name_word hn
  have h2 : t.w ≠ [] := by rintro e; rw [e] at h1; cases h1
  rcases h.kw t ht h2 with h3 | h3
  · exact h3
  · rw [h.k3 t ht h3] at h1; cases h1
theorem LT.e4 {T : List Tk} (h : LT T) (E : Int) (I : Nat) : E4 (tl T E I) := by
  intro t ht
  unfold tl at ht
  rw [List.mem_append] at ht
  rcases ht with ht | ht
  · exact fun e => (h.k4 t (List.mem_of_mem_drop ht) e).elim
  · simp at ht; subst ht; exact fun _ => rfl
/-- A word that is no verb, and no name, is one of two. -/
theorem word_kw {w : List UInt8} (h1 : wordB w = true) (h2 : vb w = false) (h3 : nameB w = false) : w = [105, 110] ∨ w = [111, 117, 116] := by
  unfold nameB at h3
  rw [h1, h2] at h3
  simp at h3
  by_cases h : w = [105, 110]
  · exact .inl h
  · exact .inr (h3 h)
theorem kw_name {w : List UInt8} (h : w = [105, 110] ∨ w = [111, 117, 116]) : nameB w = false ∧ wordB w = true ∧ vb w = false := by
  rcases h with rfl | rfl <;> decide
theorem piece_word {b : UInt8} {r : List UInt8} {kd v : Int} {w : List UInt8} {k : Nat} (h : piece b r = .tok kd w v k) : (kd = 1 → wordB w = true) ∧ (kd = 3 → wordB w = false) := by
  unfold piece at h
  split at h
  · cases h
  split at h
  · cases h
  split at h
  · injection h with h1 h2; subst h1; exact ⟨fun h => (by cases h), fun h => (by cases h)⟩
  split at h
  · rename_i hl
    split at h
    · cases h
    · rename_i hr
      injection h with h1 h2 h3 h4
      subst h1 h2
      refine ⟨fun _ => ?_, fun h => by cases h⟩
      show (letB b && decide (run alnB (r.take (run alnB r)) = (r.take (run alnB r)).length) && decide ((r.take (run alnB r)).length ≤ 15)) = true
      have e := run_ext alnB r [] (fun c hc => by simp at hc)
      rw [List.append_nil] at e
      rw [hl, e]
      have := run_le alnB r
      simp
      omega
  have hnum : ∀ {o : Option Int} {j : Nat}, numP o j = .tok kd w v k → (kd = 1 → wordB w = true) ∧ (kd = 3 → wordB w = false) := by
    intro o j hp
    cases o with
    | none => cases hp
    | some x => injection hp with h1 h2; subst h1; exact ⟨fun h => (by cases h), fun h => (by cases h)⟩
  split at h
  · exact hnum h
  split at h
  · exact hnum h
  rename_i hl _ _
  split at h
  · injection h with h1 h2 h3 h4
    subst h1 h2
    refine ⟨fun h => (by cases h), fun _ => ?_⟩
    unfold wordB
    simp [hl]
  split at h
  · injection h with h1 h2 h3 h4
    subst h1 h2
    refine ⟨fun h => (by cases h), fun _ => ?_⟩
    unfold wordB
    simp [hl]
  · cases h
theorem lex_words : ∀ (n : Nat) (l : List UInt8) (a : Int), l.length ≤ n → ∀ ts, lexL l a = .ok ts → ∀ t ∈ ts, (t.k = 1 → wordB t.w = true) ∧ (t.k = 3 → wordB t.w = false) := by
  intro n
  induction n with
  | zero =>
    intro l a hl ts h
    obtain rfl : l = [] := List.length_eq_zero_iff.1 (by omega)
    rw [lex_nil] at h; injection h with h; subst h
    exact fun t ht => by simp at ht
  | succ n ih =>
    intro l a hl ts h
    cases l with
    | nil => rw [lex_nil] at h; injection h with h; subst h; exact fun t ht => by simp at ht
    | cons b r =>
      simp at hl
      cases hp : piece b r with
      | skip k =>
        rw [lex_skip hp] at h
        exact ih _ _ (by rw [List.length_drop]; omega) _ h
      | tok kd w v k =>
        rw [lex_tok hp] at h
        obtain ⟨vs, hv, rfl⟩ := pre_ok h
        have h1 := ih _ _ (by rw [List.length_drop]; omega) _ hv
        intro t ht
        simp only [List.cons_append, List.nil_append, List.mem_cons] at ht
        rcases ht with rfl | ht
        · exact piece_word hp
        · exact h1 t ht
      | bad e => rw [lex_bad hp] at h; cases h
end Go.Proofs.YthdognmppbckbaaDoor
/- The document's Reader: phrase, all its cases in two. Written by gen_ro.py. -/
namespace Go.Proofs.YthdognmppbckbaaDoor
open Go.RowKit
theorem betw_of {w : List UInt8} {f : Int} (hf : f = verbR w true) : (betw w = 0 ∧ ((f != 0) = false ∨ ((f != 0) = true ∧ decide (f ≤ 17) = false))) ∨ (betw w = f ∧ betw w ≠ 0 ∧ (f != 0) = true ∧ decide (f ≤ 17) = true) := by
  unfold betw
  rw [← hf]
  by_cases h : 17 < f
  · rw [if_pos h]; exact .inl ⟨rfl, .inr ⟨by simp; omega, by simp; omega⟩⟩
  · rw [if_neg h]
    by_cases h2 : f = 0
    · exact .inl ⟨h2, .inl (by simp [h2])⟩
    · exact .inr ⟨rfl, h2, by simpa using h2, by simp; omega⟩
theorem phrase_yes (w : World) (R g n c I : Nat) (T : List Tk) (E D : Int) (h : RZ w R g T n c I E D 0 0) (hlg : g < w.heap.size) (hI : I < n) (hn7 : n ≤ 1000000) (hT : LT T) (two : Bool) (x : Int × Int) (hx : x = phR (T.getD I default).w two (mk (tl T E (I + 1))).1) (h0 : x.2 ≠ 0) : Calls Tryd.prog 83 #[.pointer (some ⟨R, 0, none⟩), .bool two] w fun e w' => e = .returned (phV x.1 (T.getD I default).a x.2) ∧ Fr (fun k => k = R) w w' ∧ ∃ J, I < J ∧ J ≤ n ∧ tl T E J = (mk (tl T E (I + 1))).2 ∧ RZ w' R g T n c J E D 0 0 := by
  have hnn := h.hn
  by_cases hm : mkd T (I + 1)
  · rw [mk_yes hm] at hx ⊢
    have hI1 : I + 1 < n := by rw [← hnn]; exact hm.1
    have hkk := hT.kw _ (getD_mem hm.1) (by rcases hm.2 with e | e | e <;> rw [e] <;> simp)
    obtain ⟨f, hf⟩ : ∃ f, f = verbR (T.getD I default).w true := ⟨_, rfl⟩
    have hb := betw_of hf
    rcases hm.2 with e | e | e
    · rw [e] at hx
      cases two
      · obtain rfl : x = (5, betw (T.getD I default).w) := hx
        rcases hb with hb | ⟨b1, b2, b3, b4⟩
        · exact (h0 hb.1).elim
        · refine (phrase_m47 w R g n c I T E D h hlg hI hn7 hI1 e hkk f hf b3 b4).mono ?_
          rintro e' w' ⟨rfl, h1, h2⟩
          exact ⟨by rw [b1], h2, I + 2, by omega, by omega, rfl, h1⟩
      · obtain rfl : x = (0, 0) := hx
        exact (h0 rfl).elim
    · rw [e] at hx
      cases two
      · obtain rfl : x = (6, betw (T.getD I default).w) := hx
        rcases hb with hb | ⟨b1, b2, b3, b4⟩
        · exact (h0 hb.1).elim
        · refine (phrase_m92 w R g n c I T E D h hlg hI hn7 hI1 e hkk f hf b3 b4).mono ?_
          rintro e' w' ⟨rfl, h1, h2⟩
          exact ⟨by rw [b1], h2, I + 2, by omega, by omega, rfl, h1⟩
      · obtain rfl : x = (0, 0) := hx
        exact (h0 rfl).elim
    · rw [e] at hx
      cases two
      · obtain rfl : x = (0, 0) := hx
        exact (h0 rfl).elim
      · obtain rfl : x = (7, betw (T.getD I default).w) := hx
        rcases hb with hb | ⟨b1, b2, b3, b4⟩
        · exact (h0 hb.1).elim
        · refine (phrase_m46 w R g n c I T E D h hlg hI hn7 hI1 e hkk f hf b3 b4).mono ?_
          rintro e' w' ⟨rfl, h1, h2⟩
          exact ⟨by rw [b1], h2, I + 2, by omega, by omega, rfl, h1⟩
  · rw [mk_no hm] at hx ⊢
    have hm' : ¬ (I + 1 < n ∧ ((T.getD (I + 1) default).w = [47] ∨ (T.getD (I + 1) default).w = [92] ∨ (T.getD (I + 1) default).w = [46])) := fun a => hm ⟨by rw [hnn]; exact a.1, a.2⟩
    cases two
    · obtain rfl : x = (3, verbR (T.getD I default).w false) := hx
      refine (phrase_plain1 w R g n c I T E D h hlg hI hn7 hm' _ rfl (by simpa using h0)).mono ?_
      rintro e' w' ⟨rfl, h1, h2⟩
      exact ⟨rfl, h2, I + 1, by omega, by omega, rfl, h1⟩
    · obtain rfl : x = (4, verbR (T.getD I default).w true) := hx
      refine (phrase_plain2 w R g n c I T E D h hlg hI hn7 hm' _ rfl (by simpa using h0)).mono ?_
      rintro e' w' ⟨rfl, h1, h2⟩
      exact ⟨rfl, h2, I + 1, by omega, by omega, rfl, h1⟩
theorem phrase_no (w : World) (R g n c I : Nat) (T : List Tk) (E D : Int) (h : RZ w R g T n c I E D 0 0) (hlg : g < w.heap.size) (hI : I < n) (hn7 : n ≤ 1000000) (hT : LT T) (two : Bool) (x : Int × Int) (hx : x = phR (T.getD I default).w two (mk (tl T E (I + 1))).1) (h0 : x.2 = 0) : Calls Tryd.prog 83 #[.pointer (some ⟨R, 0, none⟩), .bool two] w fun e w' => (∃ x y z, e = .returned (phV x y z)) ∧ RZ w' R g T n c I E D (T.getD I default).a 43 ∧ Fr (fun k => k = R) w w' := by
  have hnn := h.hn
  by_cases hm : mkd T (I + 1)
  · rw [mk_yes hm] at hx
    have hI1 : I + 1 < n := by rw [← hnn]; exact hm.1
    have hkk := hT.kw _ (getD_mem hm.1) (by rcases hm.2 with e | e | e <;> rw [e] <;> simp)
    obtain ⟨f, hf⟩ : ∃ f, f = verbR (T.getD I default).w true := ⟨_, rfl⟩
    have hb := betw_of hf
    rcases hm.2 with e | e | e
    · rw [e] at hx
      cases two
      · obtain rfl : x = (5, betw (T.getD I default).w) := hx
        rcases hb with ⟨_, hb | ⟨b3, b4⟩⟩ | hb
        · exact phrase_b47fz w R g n c I T E D h hlg hI hn7 hI1 e hkk f hf hb
        · exact phrase_b47fg w R g n c I T E D h hlg hI hn7 hI1 e hkk f hf b3 b4
        · exact (hb.2.1 h0).elim
      · rcases hb with ⟨_, hb | ⟨b3, b4⟩⟩ | ⟨_, _, b3, b4⟩
        · exact phrase_b47tz w R g n c I T E D h hlg hI hn7 hI1 e hkk f hf hb
        · exact phrase_b47tg w R g n c I T E D h hlg hI hn7 hI1 e hkk f hf b3 b4
        · exact phrase_b47tl w R g n c I T E D h hlg hI hn7 hI1 e hkk f hf b3 b4
    · rw [e] at hx
      cases two
      · obtain rfl : x = (6, betw (T.getD I default).w) := hx
        rcases hb with ⟨_, hb | ⟨b3, b4⟩⟩ | hb
        · exact phrase_b92fz w R g n c I T E D h hlg hI hn7 hI1 e hkk f hf hb
        · exact phrase_b92fg w R g n c I T E D h hlg hI hn7 hI1 e hkk f hf b3 b4
        · exact (hb.2.1 h0).elim
      · rcases hb with ⟨_, hb | ⟨b3, b4⟩⟩ | ⟨_, _, b3, b4⟩
        · exact phrase_b92tz w R g n c I T E D h hlg hI hn7 hI1 e hkk f hf hb
        · exact phrase_b92tg w R g n c I T E D h hlg hI hn7 hI1 e hkk f hf b3 b4
        · exact phrase_b92tl w R g n c I T E D h hlg hI hn7 hI1 e hkk f hf b3 b4
    · rw [e] at hx
      cases two
      · rcases hb with ⟨_, hb | ⟨b3, b4⟩⟩ | ⟨_, _, b3, b4⟩
        · exact phrase_b46fz w R g n c I T E D h hlg hI hn7 hI1 e hkk f hf hb
        · exact phrase_b46fg w R g n c I T E D h hlg hI hn7 hI1 e hkk f hf b3 b4
        · exact phrase_b46fl w R g n c I T E D h hlg hI hn7 hI1 e hkk f hf b3 b4
      · obtain rfl : x = (7, betw (T.getD I default).w) := hx
        rcases hb with ⟨_, hb | ⟨b3, b4⟩⟩ | hb
        · exact phrase_b46tz w R g n c I T E D h hlg hI hn7 hI1 e hkk f hf hb
        · exact phrase_b46tg w R g n c I T E D h hlg hI hn7 hI1 e hkk f hf b3 b4
        · exact (hb.2.1 h0).elim
  · rw [mk_no hm] at hx
    have hm' : ¬ (I + 1 < n ∧ ((T.getD (I + 1) default).w = [47] ∨ (T.getD (I + 1) default).w = [92] ∨ (T.getD (I + 1) default).w = [46])) := fun a => hm ⟨by rw [hnn]; exact a.1, a.2⟩
    cases two
    · obtain rfl : x = (3, verbR (T.getD I default).w false) := hx
      exact phrase_none1 w R g n c I T E D h hlg hI hn7 hm' _ rfl (by simpa using h0)
    · obtain rfl : x = (4, verbR (T.getD I default).w true) := hx
      exact phrase_none2 w R g n c I T E D h hlg hI hn7 hm' _ rfl (by simpa using h0)
end Go.Proofs.YthdognmppbckbaaDoor
/- Rows of items of one's own beside the document's reader; what is put behind them. -/
namespace Go.Proofs.YthdognmppbckbaaDoor
open Go.RowKit
set_option linter.unusedVariables false
/-- A row of items of one's own. -/
def OI (w : World) (B : Nat) (v : Value) (m : Nat) (l : List It) : Prop := ∃ ms : List IM, w.ownsRow B 52 5 v m (ms.flatMap IM.cells) ∧ ms.length = m ∧ ms.map IM.it = l ∧ ∀ x ∈ ms, RdN w (fun j => j < w.heap.size) x.A x.it.ns
theorem OI.nil (w : World) (B : Nat) : OI w B (.slice none 0 0) 0 [] := ⟨[], World.ownsRow_nil w B _ _, rfl, rfl, fun x hx => by cases hx⟩
theorem OI.len {w : World} {B m : Nat} {v : Value} {l : List It} (h : OI w B v m l) : l.length = m := by
  obtain ⟨ms, _, h2, rfl, _⟩ := h; rw [List.length_map, h2]
theorem OI.base {w : World} {B B' m : Nat} {v : Value} {l : List It} (h : OI w B v m l) (hB : B' ≤ B) : OI w B' v m l := by
  obtain ⟨ms, h1, h2, h3, h4⟩ := h
  exact ⟨ms, row_keep h1 (fun _ _ _ => rfl) hB, h2, h3, h4⟩
/-- Where blocks of items and numbers lie on. -/
theorem OI.on {w w' : World} {B m : Nat} {v : Value} {l : List It} (h : OI w B v m l) (hz : w.heap.size ≤ w'.heap.size) (hb : ∀ (b : Nat) (cs : Array Value) (T : TypeId) (fr : Nat × Nat), w.heap[b]? = some (Obj.cells cs T fr) → T = 52 ∨ T = 2 → w'.heap[b]? = w.heap[b]?) : OI w' B v m l := by
  obtain ⟨ms, h1, h2, h3, h4⟩ := h
  refine ⟨ms, row_keep h1 (fun k hk _ => ?_) (Nat.le_refl _), h2, h3, fun x hx => RdN.grow (h4 x hx) hz fun b cs fr e => hb b cs _ fr e (.inr rfl)⟩
  obtain ⟨cur, e⟩ := row_type h1 hk
  exact hb k cur _ _ e (.inl rfl)
theorem OI.below {w w' : World} {B m : Nat} {v : Value} {l : List It} (h : OI w B v m l) (hb : Below w.heap.size w w') : OI w' B v m l := h.on hb.size fun b _ _ _ e _ => hb.block b (heap_lt e)
theorem OI.far {w w' : World} {B m R : Nat} {v : Value} {l : List It} {cs : Array Value} {fr : Nat × Nat} (h : OI w B v m l) (F : Fr (fun k => k = R) w w') (hR : w.heap[R]? = some (.cells cs 70 fr)) : OI w' B v m l :=
  h.on F.size fun b cs' T fr' e hT => F.block b (heap_lt e) (by
    rintro rfl
    rw [hR] at e
    simp at e
    rcases hT with hT | hT <;> (rw [hT] at e; exact absurd e.2.1 (by decide)))
theorem OI.rd {w : World} {B m c : Nat} {A : Option Addr} {l : List It} (h : OI w B (.slice A m c) m l) : RdIt w A l := by
  obtain ⟨ms, h1, h2, rfl, h4⟩ := h
  exact row_items h1 h2 h4
theorem OI.lt {w : World} {B m b : Nat} {v : Value} {l : List It} (h : OI w B v m l) (hb : v.ownBlock = some b) : b < w.heap.size := by
  obtain ⟨ms, h1, _⟩ := h; exact (row_base h1 hb).2
theorem OI.shape {w : World} {B m : Nat} {v : Value} {l : List It} (h : OI w B v m l) : ∃ A c, v = .slice A m c ∧ m ≤ c := by
  obtain ⟨ms, h1, _⟩ := h; exact row_shape h1
/-- Items are put behind. -/
theorem append_items {w : World} {ops : Array Oper} {rest : List Oper} {o : Oper} {a : Act} {Q : Exit → Act → World → Prop} (hgd : o.guard = none) (sl x : Operand)
    (ho : o.op = .call { callee := .builtin .append, args := #[sl, x], argTypes := #[39, 39] }) (B : Nat) (A : Option Addr) (m c : Nat) (l : List It)
    (hs : a.eval sl = .slice A m c) (h : OI w B (.slice A m c) m l) (q o1 n c1 : Nat) (hx : a.eval x = .slice (some ⟨q, o1, none⟩) n c1) (us : List IM) (hn : us.length = n) (hu : ∀ y ∈ us, RdN w (fun j => j < w.heap.size) y.A y.it.ns) (hc : ∀ (j : Nat) (u : Value), (us.flatMap IM.cells)[j]? = some u → w.cell? ((⟨q, o1, none⟩ : Addr).add j) = some u) (hn0 : 0 < n) (hm : m + n ≤ 1000000) (hb : B ≤ w.heap.size)
    (hK : ∀ A' c' w', OI w' B (.slice A' (m + n) c') (m + n) (l ++ us.map IM.it) → Below B w w' → (∀ b, b < w.heap.size → (Value.slice A m c).ownBlock ≠ some b → w'.heap[b]? = w.heap[b]?) → wpList Tryd.prog ops Q rest (a.put o.dst (.slice A' (m + n) c')) w') :
    wpList Tryd.prog ops Q (o :: rest) a w := by
  obtain ⟨i1, hi, hz0, hz1, hz2⟩ := info_parts infoI
  obtain ⟨ms, h1, h2, h3, h4⟩ := h
  refine wpList_append_lies w hgd sl x _ ho B 52 i1 _ 5 64 Tryd.underlying39 hi hz0 hz1 hz2 rfl (by omega) _ m (ms.flatMap IM.cells) hs h1 ⟨q, o1, none⟩ n c1 (us.flatMap IM.cells) hx (by rw [flatI_len, hn]) hc (ones_all us) hn0 (by unfold maxLen; omega) (by omega) hb w.heap.size rfl ?_
  intro g cap w' hown hgr _ _
  have hbel : Below B w w' := (Below.refl B w).grown hgr hb fun k hk => (row_base h1 hk).1
  have hnum : ∀ {A0 : Option Addr} {ns : List Int}, RdN w (fun j => j < w.heap.size) A0 ns → RdN w' (fun j => j < w'.heap.size) A0 ns := fun hr => RdN.grow hr hgr.size fun b cs fr e => hgr.block b (heap_lt e) fun e' => by
    obtain ⟨cur, e2⟩ := row_type h1 e'.symm
    rw [e] at e2
    simp at e2
  refine hK (some ⟨g, 0, none⟩) cap w' ⟨ms ++ us, by rw [List.flatMap_append]; exact hown, by rw [List.length_append, h2, hn], by rw [List.map_append, h3], fun y hy => ?_⟩ hbel fun b hb2 hne => hgr.block b hb2 (Ne.symm hne)
  rcases List.mem_append.1 hy with hy | hy
  · exact hnum (h4 y hy)
  · exact hnum (hu y hy)
theorem append_zero {w : World} {base : Nat} {e : TypeId} {i : TypeInfo} {size : Nat} (t ty : TypeId) (ht : Tryd.prog.underlying t = some (.slice e)) (hi : Tryd.prog.info? e = some i)
    (v : Value) (n c : Nat) (xs : List Value) (hown : w.ownsRow base e size v n xs) (A2 : Option Addr) :
    (Builtin.append_ #[t, t] ty #[v, .slice A2 0 c]).run Tryd.prog w = .ok v w := by
  rcases hown.2 with ⟨rfl, rfl⟩ | ⟨g, cap, cur, rfl, _, _, hnc, _⟩
  · cases A2 with
    | none => simp [Builtin.append_, run_underlying ht, sizeOf, typeInfo, hi, Builtin.lenOf, Builtin.firstCells]
    | some a => simp [Builtin.append_, run_underlying ht, sizeOf, typeInfo, hi, Builtin.lenOf, Builtin.firstCells, loadCells, loadCellsFrom]
  · cases A2 with
    | none => simp [Builtin.append_, run_underlying ht, sizeOf, typeInfo, hi, Builtin.lenOf, Builtin.firstCells, hnc, storeCells]
    | some a => simp [Builtin.append_, run_underlying ht, sizeOf, typeInfo, hi, Builtin.lenOf, Builtin.firstCells, hnc, storeCells, loadCells, loadCellsFrom]
/-- A row of one's own is put behind. -/
theorem append_own {w : World} {ops : Array Oper} {rest : List Oper} {o : Oper} {a : Act} {Q : Exit → Act → World → Prop} (hgd : o.guard = none) (sl x : Operand)
    (ho : o.op = .call { callee := .builtin .append, args := #[sl, x], argTypes := #[39, 39] }) (B : Nat) (A : Option Addr) (m c : Nat) (l : List It)
    (hs : a.eval sl = .slice A m c) (h : OI w B (.slice A m c) m l) (B2 : Nat) (A2 : Option Addr) (n c2 : Nat) (l2 : List It) (hx : a.eval x = .slice A2 n c2) (g : OI w B2 (.slice A2 n c2) n l2) (hm : m + n ≤ 1000000) (hb : B ≤ w.heap.size)
    (hK : ∀ A' c' w', OI w' B (.slice A' (m + n) c') (m + n) (l ++ l2) → Below B w w' → (∀ b, b < w.heap.size → (Value.slice A m c).ownBlock ≠ some b → w'.heap[b]? = w.heap[b]?) → wpList Tryd.prog ops Q rest (a.put o.dst (.slice A' (m + n) c')) w') :
    wpList Tryd.prog ops Q (o :: rest) a w := by
  have hl := g.len
  rcases Nat.eq_zero_or_pos n with h0 | hn0
  · subst h0
    obtain ⟨i1, hi, _⟩ := info_parts infoI
    obtain rfl : l2 = [] := List.length_eq_zero_iff.1 hl
    refine wpList_plain hgd fun K hK2 => ?_
    obtain ⟨ms, h1, h2, h3, h4⟩ := h
    have hrun := append_zero (w := w) 39 o.type Tryd.underlying39 hi (.slice A m c) m c2 _ h1 A2
    unfold Oper.wp execOp
    simp only [ho, resolve, invoke, builtin, Sem.run_bind, Sem.run_pure, Result.andThen_ok, List.map_toArray, List.map_cons, List.map_nil, hs, hx, hrun]
    exact hK2 _ _ (hK A c w ⟨ms, h1, h2, by rw [h3, List.append_nil], h4⟩ (Below.refl _ _) fun _ _ _ => rfl)
  obtain ⟨q, o1, us, rfl, hq, hu, hc, hr⟩ := items_rows g.rd (by omega)
  subst hu
  rw [List.length_map] at hl
  exact append_items hgd sl x ho B A m c l hs h q o1 n c2 hx us hl hr hc hn0 hm hb hK
theorem RZ.at {w w' : World} {R g n c I : Nat} {T : List Tk} {E D fa fc : Int} (h : RZ w R g T n c I E D fa fc) {B : Nat} (hb : Below B w w') (h1 : R < B) (h2 : g < B) : RZ w' R g T n c I E D fa fc :=
  ⟨(hb.block _ h1).trans h.blk, h.hn, Nat.lt_of_lt_of_le h.lg hb.size, h.ne, fun i hi => cells4_keep (h.tok i hi) (hb.block _ h2)⟩
theorem Fr.up {S : Nat → Prop} {w w1 w2 : World} (h : Fr S w w1) (hb : Below w.heap.size w1 w2) : Fr S w w2 :=
  ⟨hb.os.trans h.os, hb.tape.trans h.tape, hb.output.trans h.output, Nat.le_trans h.size hb.size, fun k hk hs => (hb.block k hk).trans (h.block k hk hs)⟩
theorem RZ.up {w : World} {R g n c I : Nat} {T : List Tk} {E D fa fc : Int} (h : RZ w R g T n c I E D fa fc) (o : Obj) : RZ (w.alloc o) R g T n c I E D fa fc := h.keep ((Below.refl _ _).alloc (Nat.le_refl _) _)
def itOf (h pl fn : Int) : IM := ⟨⟨h, pl, fn, [], []⟩, none, 0⟩
theorem itOf_box {w : World} {b : Nat} {h pl fn : Int} (hb : w.heap[b]? = some (.cells #[.int .i64 h, .int .i64 pl, .int .u8 fn, .string ⟨#[]⟩, .slice none 0 0] 52 (0, 0))) :
    w.cell? ⟨b, 0, none⟩ = some (.int .i64 h) ∧ w.cell? ⟨b, 1, none⟩ = some (.int .i64 pl) ∧ w.cell? ⟨b, 2, none⟩ = some (.int .u8 fn) ∧ w.cell? ⟨b, 3, none⟩ = some (.string ⟨#[]⟩) ∧ w.cell? ⟨b, 4, none⟩ = some (.slice none 0 0) := by
  refine ⟨?_, ?_, ?_, ?_, ?_⟩ <;> · rw [cell_of_row _ _ _ _ _ _ hb]; rfl
/-! ### what Expr answers -/
def Rx.put : Rx → List It → List It → Rx
  | .err a e, _, _ => .err a e
  | .ok l r, x, y => .ok (x ++ l ++ y) r
def ExOk (T : List Tk) (E : Int) (n I : Nat) (x : Rx) (l : List It) (m I' : Nat) (fa fc : Int) : Prop := match x with
  | .err a e => fa = a ∧ fc = e ∧ (e != 0) = true
  | .ok its r => l = its ∧ fa = 0 ∧ fc = 0 ∧ I < I' ∧ I' ≤ n ∧ r = tl T E I' ∧ m + (n - I') ≤ n - I
def ExAns (w : World) (R g : Nat) (T : List Tk) (n c I : Nat) (E : Int) (d : Nat) (x : Rx) (e : Ending) (w' : World) : Prop :=
  ∃ A m k l, e = .returned (.slice A m k) ∧ OI w' w.heap.size (.slice A m k) m l ∧ Fr (fun k => k = R) w w' ∧ m ≤ n - I ∧ ∃ I' fa fc, RZ w' R g T n c I' E d fa fc ∧ I' + d ≤ n + 32 ∧ ExOk T E n I x l m I' fa fc
theorem ExOk.put {T : List Tk} {E : Int} {n I J : Nat} {x : Rx} {l : List It} {m I' : Nat} {fa fc : Int} (h : ExOk T E n J x l m I' fa fc) (p q : List It) (hJ : p.length + q.length + (n - J) ≤ n - I) (hI : I < J) : ExOk T E n I (x.put p q) (p ++ l ++ q) (p.length + m + q.length) I' fa fc := by
  cases x with
  | err a e => exact h
  | ok its r =>
    obtain ⟨h1, h2, h3, h4, h5, h6, h7⟩ := h
    exact ⟨by rw [h1], h2, h3, by omega, h5, h6, by omega⟩
end Go.Proofs.YthdognmppbckbaaDoor
/- The document's Expr: its cases. Written by gen_zb.py. -/
namespace Go.Proofs.YthdognmppbckbaaDoor
open Go.RowKit
set_option linter.unusedVariables false
set_option maxRecDepth 100000 in
set_option maxHeartbeats 1600000 in
theorem expr_vn (w : World) (R g n c I : Nat) (T : List Tk) (E : Int) (d : Nat) (h : RZ w R g T n c I E d 0 0) (hlg : g < w.heap.size) (hn7 : n ≤ 1000000) (hT : LT T) (hId : I + d ≤ n + 32) (hIn : I ≤ n) (hI : I < n) (hv : vb (T.getD I default).w = true) (x : Int × Int) (hx : x = phR (T.getD I default).w false (mk (tl T E (I + 1))).1) (h0 : x.2 = 0) : Calls Tryd.prog 70 #[.pointer (some ⟨R, 0, none⟩)] w (ExAns w R g T n c I E d (.err (T.getD I default).a 43)) := by
  have hRl := h.lt
  have HV := Lib.hid (verb04_any w R g n c I T E d 0 0 h true (fun a b => by rw [hT.k2 _ (getD_mem (by rw [h.hn]; exact a)) b]; exact vb_nil) (by symm; exact decide_eq_true ⟨hI, hv⟩))
  have HZ := Lib.hid h
  have HP := Lib.hid (fun (W : World) (hZ : RZ W R g T n c I E d 0 0) (hg : g < W.heap.size) => phrase_no W R g n c I T E d hZ hg hI hn7 hT false x hx h0)
  obtain ⟨pa, hpa⟩ : ∃ pa, pa = (T.getD I default).a := ⟨_, rfl⟩
  rw [← hpa] at HP ⊢
  have HB := Lib.hid (And.intro hlg (And.intro hId hIn))
  clear h hx h0 hv hT hlg hpa hId hIn
  go_enter Tryd.func70, Tryd.ntmps70
  go_wp2_with fail
  refine HV.out.mono ?_
  rintro e w1 ⟨rfl, j1, e1⟩
  have Z1 := Lib.hid (show RZ w1 R g T n c I E d 0 0 by rw [e1]; exact HZ.out.keep (below_drewN (Below.refl _ _) (Nat.le_refl _)))
  have F1 := Lib.hid (show Fr (fun k => k = R) w w1 by rw [e1]; exact (Fr.refl _ _).drewN j1)
  clear e1 HV
  go_wp2_with fail
  refine (HP.out _ Z1.out (Nat.lt_of_lt_of_le HB.out.1 F1.out.size)).mono ?_
  rintro e w2 ⟨⟨x1, x2, x3, rfl⟩, z2, f2⟩
  have Z2 := Lib.hid z2
  have F2 := Lib.hid (F1.out.trans f2)
  obtain ⟨-, -, -, -, -, c5⟩ := z2.c0
  have hR2 := z2.lt
  clear z2 f2 HP
  unfold phV
  go_wp2
  refine bodyPost_ret (v := .slice none 0 0) (by simp [results, Tryd.results70, go_sem]) rfl ?_
  have hz := F2.out.size
  exact ⟨none, 0, 0, [], rfl, OI.nil _ _, F2.out.alloc _, Nat.zero_le _, I, pa, 43, Z2.out.up _, HB.out.2.1, rfl, rfl, rfl⟩
set_option maxRecDepth 100000 in
set_option maxHeartbeats 1600000 in
theorem expr_v (w : World) (R g n c I : Nat) (T : List Tk) (E : Int) (d : Nat) (h : RZ w R g T n c I E d 0 0) (hlg : g < w.heap.size) (hn7 : n ≤ 1000000) (hT : LT T) (hId : I + d ≤ n + 32) (hIn : I ≤ n) (hI : I < n) (hv : vb (T.getD I default).w = true) (x : Int × Int) (hx : x = phR (T.getD I default).w false (mk (tl T E (I + 1))).1) (h0 : x.2 ≠ 0) (f : List Tk → Rx) (HX : ∀ (W : World) (J : Nat), I < J → J ≤ n → RZ W R g T n c J E d 0 0 → g < W.heap.size → Calls Tryd.prog 70 #[.pointer (some ⟨R, 0, none⟩)] W (ExAns W R g T n c J E d (f (tl T E J)))) : Calls Tryd.prog 70 #[.pointer (some ⟨R, 0, none⟩)] w (ExAns w R g T n c I E d ((f (mk (tl T E (I + 1))).2).put [] [⟨x.1, (T.getD I default).a, x.2, [], []⟩])) := by
  have hRl := h.lt
  have HV := Lib.hid (verb04_any w R g n c I T E d 0 0 h true (fun a b => by rw [hT.k2 _ (getD_mem (by rw [h.hn]; exact a)) b]; exact vb_nil) (by symm; exact decide_eq_true ⟨hI, hv⟩))
  have HZ := Lib.hid h
  have HP := Lib.hid (fun (W : World) (hZ : RZ W R g T n c I E d 0 0) (hg : g < W.heap.size) => phrase_yes W R g n c I T E d hZ hg hI hn7 hT false x hx h0)
  obtain ⟨pa, hpa⟩ : ∃ pa, pa = (T.getD I default).a := ⟨_, rfl⟩
  rw [← hpa] at HP ⊢
  obtain ⟨x1, x2⟩ := x
  have HB := Lib.hid (And.intro hlg (And.intro hId hIn))
  have HXX := Lib.hid HX
  clear h hx h0 hv hT hlg hpa hId hIn HX
  go_enter Tryd.func70, Tryd.ntmps70
  go_wp2_with fail
  refine HV.out.mono ?_
  rintro e w1 ⟨rfl, j1, e1⟩
  have Z1 := Lib.hid (show RZ w1 R g T n c I E d 0 0 by rw [e1]; exact HZ.out.keep (below_drewN (Below.refl _ _) (Nat.le_refl _)))
  have F1 := Lib.hid (show Fr (fun k => k = R) w w1 by rw [e1]; exact (Fr.refl _ _).drewN j1)
  clear e1 HV
  go_wp2_with fail
  refine (HP.out _ Z1.out (Nat.lt_of_lt_of_le HB.out.1 F1.out.size)).mono ?_
  rintro e w2 ⟨rfl, f2, J, hJ1, hJ2, hJ3, z2⟩
  have Z2 := Lib.hid z2
  have F2 := Lib.hid (F1.out.trans f2)
  have HJ := Lib.hid hJ3
  obtain ⟨-, -, -, -, -, c5⟩ := z2.c0
  have hR2 := z2.lt
  clear z2 f2 HP hJ3
  unfold phV
  go_wp2_with fail
  have HBX := Lib.hid (heap_alloc_new w2 (.cells #[.int .i64 x1, .int .i64 pa, .int .u8 x2, .string ⟨#[]⟩, .slice none 0 0] 52))
  refine (HXX.out _ J hJ1 hJ2 (Z2.out.up _) (by have := HB.out.1; have := F2.out.size; simp; omega)).mono ?_
  rintro e w4 ⟨A, m, k, l, rfl, o4, f4, hm4, I', fa, fc, z4, hI', ok4⟩
  have hb4 : w4.heap[w2.heap.size]? = _ := (f4.block w2.heap.size (by simp) (by omega)).trans HBX.out
  obtain ⟨b0, b1, b2, b3, b4⟩ := itOf_box hb4
  have hz2 := F2.out.size
  have hz4 : w2.heap.size + 1 ≤ w4.heap.size := by have := f4.size; simpa using this
  have O4 := Lib.hid (o4.base (B' := w.heap.size) (by simp; omega))
  have F4 := Lib.hid ((F2.out.alloc _).trans f4)
  have Z4 := Lib.hid z4
  have K4 := Lib.hid (And.intro hI' ok4)
  have hm5 : m + 1 ≤ 1000000 := by omega
  have hl2 : w2.heap.size < w4.heap.size := by omega
  clear hb4 o4 f4 z4 hI' ok4 HBX c5
  go_wp2_with (at_builtin; refine append_items rfl (.tmp 20) (.tmp 22) rfl w.heap.size A m k l rfl (O4.out.below (up _)) w4.heap.size 0 1 1 rfl [itOf x1 pa x2] rfl (fun y hy => by simp at hy; subst hy; exact RdN.nil _ _ _) (newsN _ _ rfl #[.int .i64 x1, .int .i64 pa, .int .u8 x2, .string ⟨#[]⟩, .slice none 0 0] _) (by decide) hm5 (by have := F4.out.size; simp; omega) ?_; intro A5 k5 w5 h5 g5 r5; have H5 := Lib.hid h5; have G5 := Lib.hid g5; clear h5 g5 r5)
  refine bodyPost_ret (v := .slice A5 (m + 1) k5) (by simp [results, Tryd.results70, go_sem]) rfl ?_
  have hR0 := HZ.out.lt
  refine ⟨A5, m + 1, k5, l ++ [⟨x1, pa, x2, [], []⟩], rfl, H5.out, (F4.out.alloc _).up G5.out, by omega, I', fa, fc, (Z4.out.up _).at G5.out hR0 HB.out.1, K4.out.1, ?_⟩
  have hq := K4.out.2.put [] [⟨x1, pa, x2, [], []⟩] (I := I) (by simp; omega) hJ1
  rw [HJ.out, List.length_nil, Nat.zero_add] at hq
  exact hq
end Go.Proofs.YthdognmppbckbaaDoor
