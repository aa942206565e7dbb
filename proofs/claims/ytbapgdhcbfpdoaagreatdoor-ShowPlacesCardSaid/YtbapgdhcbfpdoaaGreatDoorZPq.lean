/- Layer 4, put together: ParRx, ParRn. -/
import Derived.Test.YtbapgdhcbfpdoaaGreatDoorZM2
import Derived.Test.YtbapgdhcbfpdoaaGreatDoorZLf
/- Expressions, the document's way, over plain lists; that the code's way is the same. -/
namespace Go.Proofs.YtbapgdhcbfpdoaaGreatDoor
open Go.RowKit
inductive Rx where
  | ok (l : List It) (rest : List Tk)
  | err (a e : Int)
deriving DecidableEq
/-- An operand: at t, behind it r; f: what stands in brackets. -/
def ropd (f : List Tk → Rx) (d : Nat) (t : Tk) (r : List Tk) : Rx :=
  if t.k = 2 then .ok [⟨1, t.a, 0, [], t.n :: numsOf r⟩] (pastNums r)
  else if nameB t.w then .ok [⟨2, t.a, 0, t.w, []⟩] r
  else if t.w = [40] then (if d = 32 then .err t.a 44 else match f r with
    | .err a e => .err a e
    | .ok _ [] => .err 0 0
    | .ok l (u :: r') => if u.w = [41] then .ok l r' else .err u.a 42)
  else if t.k = 1 then .err t.a 41 else .err t.a 42
/-- Behind an operand. -/
def rtail (f : List Tk → Rx) (left : List It) : List Tk → Rx
  | [] => .err 0 0
  | u :: r => if u.k = 4 ∨ u.w = [41] then .ok left (u :: r)
    else if vb u.w then (if (phR u.w true (mk r).1).2 = 0 then .err u.a 43 else match f (mk r).2 with
      | .err a e => .err a e
      | .ok l rest => .ok (left ++ l ++ [⟨(phR u.w true (mk r).1).1, u.a, (phR u.w true (mk r).1).2, [], []⟩]) rest)
    else .err u.a 46
def rx : Nat → Nat → List Tk → Rx
  | 0, _, _ => .err 0 0
  | _ + 1, _, [] => .err 0 0
  | n + 1, d, t :: r =>
    if vb t.w then
      (if (phR t.w false (mk r).1).2 = 0 then .err t.a 43 else match rx n d (mk r).2 with
        | .err a e => .err a e
        | .ok l rest => .ok (l ++ [⟨(phR t.w false (mk r).1).1, t.a, (phR t.w false (mk r).1).2, [], []⟩]) rest)
    else match ropd (rx n (d + 1)) d t r with
      | .err a e => .err a e
      | .ok left rest => rtail (rx n d) left rest
theorem rtail_cons (f : List Tk → Rx) (left : List It) (u : Tk) (r : List Tk) : rtail f left (u :: r) = if u.k = 4 ∨ u.w = [41] then .ok left (u :: r)
    else if vb u.w then (if (phR u.w true (mk r).1).2 = 0 then .err u.a 43 else match f (mk r).2 with
      | .err a e => .err a e
      | .ok l rest => .ok (left ++ l ++ [⟨(phR u.w true (mk r).1).1, u.a, (phR u.w true (mk r).1).2, [], []⟩]) rest)
    else .err u.a 46 := rfl
theorem rx_cons (n d : Nat) (t : Tk) (r : List Tk) : rx (n + 1) d (t :: r) = if vb t.w then
      (if (phR t.w false (mk r).1).2 = 0 then .err t.a 43 else match rx n d (mk r).2 with
        | .err a e => .err a e
        | .ok l rest => .ok (l ++ [⟨(phR t.w false (mk r).1).1, t.a, (phR t.w false (mk r).1).2, [], []⟩]) rest)
    else match ropd (rx n (d + 1)) d t r with
      | .err a e => .err a e
      | .ok left rest => rtail (rx n d) left rest := rfl
theorem mk_suf (r : List Tk) : (mk r).2 <:+ r := by
  unfold mk
  split
  · exact List.suffix_refl _
  · split
    · exact List.suffix_cons _ _
    · exact List.suffix_refl _
theorem past_suf (r : List Tk) : pastNums r <:+ r := List.dropWhile_suffix _
/-- What is said of a list's rest. -/
structure Rest (ts rest : List Tk) : Prop where
  ends : Ends rest
  suf : rest <:+ ts
  cl : ∃ u r', rest = u :: r' ∧ closes u
def RxOk (ts : List Tk) (b : Bool) (l0 l : List It) (s : List (Option It)) : Rx → Prop
  | .err a e => mrun ts b l0 s = .err a e
  | .ok its rest => mrun ts b l0 s = mrun rest true (l ++ its) s ∧ Rest ts rest
theorem Rest.up {ts us rest : List Tk} (h : Rest ts rest) (g : ts <:+ us) : Rest us rest := ⟨h.ends, h.suf.trans g, h.cl⟩
def E4 (ts : List Tk) : Prop := ∀ t ∈ ts, t.k = 4 → t.w = []
theorem E4.suf {ts us : List Tk} (h : E4 us) (g : ts <:+ us) : E4 ts := fun t ht => h t (g.subset ht)
theorem vb_cl : vb [41] = false := by decide
theorem vb_op : vb [40] = false := by decide
theorem tail_ok {n d : Nat} (ih : ∀ (ts : List Tk) (l : List It) (s : List (Option It)), ts.length ≤ n → Ends ts → E4 ts → opens s = d → RxOk ts false l l s (rx n d ts)) (left : List It) (ts : List Tk) (l : List It) (s : List (Option It)) (hl : ts.length ≤ n + 1) (he : Ends ts) (h4 : E4 ts) (ho : opens s = d) :
    RxOk ts true (l ++ left) l s (rtail (rx n d) left ts) := by
  cases ts with
  | nil => exact he.elim
  | cons u r =>
    rw [rtail_cons]
    by_cases hc : u.k = 4 ∨ u.w = [41]
    · rw [if_pos hc]
      refine ⟨rfl, he, List.suffix_refl _, u, r, rfl, ?_, hc⟩
      rcases hc with hc | hc
      · rw [h4 u (by simp) hc]; exact vb_nil
      · rw [hc]; exact vb_cl
    · rw [if_neg hc]
      have hn4 : ¬ u.k = 4 := fun h => hc (.inl h)
      have hn41 : ¬ u.w = [41] := fun h => hc (.inr h)
      by_cases hv : vb u.w = true
      · rw [if_pos hv]
        by_cases hp : (phR u.w true (mk r).1).2 = 0
        · rw [if_pos hp]
          show mrun _ _ _ _ = _
          rw [mrun_cons, if_pos hv, if_pos hp]
        · rw [if_neg hp]
          have hr := he.next fun h => hn4 h.1
          have hs : (mk r).2 <:+ u :: r := (mk_suf r).trans (List.suffix_cons _ _)
          have h1 := ih (mk r).2 (l ++ left) (some ⟨(phR u.w true (mk r).1).1, u.a, (phR u.w true (mk r).1).2, [], []⟩ :: s) (by have := mk_len r; simp only [List.length_cons] at hl; omega) hr.mk (h4.suf hs) ho
          have h2 : mrun (u :: r) true (l ++ left) s = mrun (mk r).2 false (l ++ left) (some ⟨(phR u.w true (mk r).1).1, u.a, (phR u.w true (mk r).1).2, [], []⟩ :: s) := by rw [mrun_cons, if_pos hv, if_neg hp]
          cases hx : rx n d (mk r).2 with
          | err a e =>
            rw [hx] at h1
            exact h2.trans h1
          | ok its rest =>
            rw [hx] at h1
            obtain ⟨h3, h5⟩ := h1
            obtain ⟨v, r', rfl, hcl⟩ := h5.cl
            refine ⟨?_, h5.up hs⟩
            rw [h2, h3, mrun_shift hcl]
            simp
      · rw [if_neg hv]
        show mrun _ _ _ _ = _
        rw [mrun_cons, if_neg hv, if_neg (by decide), if_neg hn4, if_neg (fun h => hn41 h.1)]
theorem opd_ok {n d : Nat} (ih : ∀ (ts : List Tk) (l : List It) (s : List (Option It)), ts.length ≤ n → Ends ts → E4 ts → opens s = d + 1 → RxOk ts false l l s (rx n (d + 1) ts)) (t : Tk) (r : List Tk) (l : List It) (s : List (Option It)) (hl : r.length ≤ n) (he : Ends (t :: r)) (h4 : E4 (t :: r)) (hv : ¬ vb t.w = true) (ho : opens s = d) :
    match ropd (rx n (d + 1)) d t r with
    | .err a e => mrun (t :: r) false l s = .err a e
    | .ok its rest => mrun (t :: r) false l s = mrun rest true (l ++ its) s ∧ Ends rest ∧ rest <:+ r := by
  have hm : mrun (t :: r) false l s = (if t.k = 2 then mrun (pastNums r) true (l ++ [⟨1, t.a, 0, [], t.n :: numsOf r⟩]) s
      else if nameB t.w then mrun r true (l ++ [⟨2, t.a, 0, t.w, []⟩]) s
      else if t.w = [40] then (if opens s = 32 then .err t.a 44 else mrun r false l (none :: s))
      else if t.k = 1 then .err t.a 41 else .err t.a 42) := by rw [mrun_cons, if_neg hv, if_pos rfl]
  unfold ropd
  by_cases h2 : t.k = 2
  · rw [if_pos h2, hm, if_pos h2]
    have hr := he.next fun h => by omega
    exact ⟨rfl, hr.past, past_suf r⟩
  · rw [if_neg h2]
    rw [if_neg h2] at hm
    by_cases hn : nameB t.w = true
    · rw [if_pos hn, hm, if_pos hn]
      refine ⟨rfl, he.next fun h => ?_, List.suffix_refl _⟩
      rw [h.2, name_nil] at hn
      cases hn
    · rw [if_neg hn]
      rw [if_neg hn] at hm
      by_cases h40 : t.w = [40]
      · rw [if_pos h40]
        rw [if_pos h40, ho] at hm
        by_cases hd : d = 32
        · rw [if_pos hd]
          rw [if_pos hd] at hm
          exact hm
        · rw [if_neg hd]
          rw [if_neg hd] at hm
          have hr := he.next fun h => by rw [h.2] at h40; cases h40
          have h1 := ih r l (none :: s) hl hr (h4.suf (List.suffix_cons _ _)) (by show opens s + 1 = _; omega)
          cases hx : rx n (d + 1) r with
          | err a e =>
            rw [hx] at h1
            exact hm.trans h1
          | ok its rest =>
            rw [hx] at h1
            obtain ⟨h3, h5⟩ := h1
            obtain ⟨u, r', rfl, hcl⟩ := h5.cl
            have hcons : mrun (u :: r') true (l ++ its) (none :: s) = (if u.k = 4 then .err u.a 42 else if u.w = [41] then mrun r' true (l ++ its) s else .err u.a 46) := by
              rw [mrun_cons, hcl.1, if_neg (by decide), if_neg (by decide), if_pos (show 0 < opens (none :: s) from Nat.succ_pos _)]
              have e : (u.w = [41] ∧ 0 < opens (none :: s)) = (u.w = [41]) := propext ⟨fun h => h.1, fun h => ⟨h, Nat.succ_pos _⟩⟩
              simp only [e]
              rfl
            show match (if u.w = [41] then Rx.ok its r' else .err u.a 42) with | .err a e => _ | .ok its rest => _
            by_cases h41 : u.w = [41]
            · rw [if_pos h41]
              have hu4 : ¬ u.k = 4 := fun h => by have := h4 u ((List.suffix_cons _ _ : r <:+ t :: r).subset (h5.suf.subset (by simp))) h; rw [this] at h41; cases h41
              refine ⟨?_, h5.ends.next fun h => hu4 h.1, (List.suffix_cons _ _).trans h5.suf⟩
              rw [hm, h3, hcons, if_neg hu4, if_pos h41]
            · rw [if_neg h41]
              show mrun _ _ _ _ = _
              rw [hm, h3, hcons, if_pos (hcl.2.resolve_right h41)]
      · rw [if_neg h40]
        rw [if_neg h40] at hm
        by_cases h1 : t.k = 1
        · rw [if_pos h1]
          rw [if_pos h1] at hm
          exact hm
        · rw [if_neg h1]
          rw [if_neg h1] at hm
          exact hm
/-- Both ways are the same. -/
theorem rx_ok : ∀ (n d : Nat) (ts : List Tk) (l : List It) (s : List (Option It)), ts.length ≤ n → Ends ts → E4 ts → opens s = d → RxOk ts false l l s (rx n d ts) := by
  intro n
  induction n with
  | zero =>
    intro d ts l s hl he
    exact absurd he.pos (by omega)
  | succ n ih =>
    intro d ts l s hl he h4 ho
    cases ts with
    | nil => exact he.elim
    | cons t r =>
      simp only [List.length_cons] at hl
      rw [rx_cons]
      by_cases hv : vb t.w = true
      · rw [if_pos hv]
        by_cases hp : (phR t.w false (mk r).1).2 = 0
        · rw [if_pos hp]
          show mrun _ _ _ _ = _
          rw [mrun_cons, if_pos hv, if_pos hp]
        · rw [if_neg hp]
          have hr := he.next fun h => by rw [h.2, vb_nil] at hv; cases hv
          have hs : (mk r).2 <:+ t :: r := (mk_suf r).trans (List.suffix_cons _ _)
          have h1 := ih d (mk r).2 l (some ⟨(phR t.w false (mk r).1).1, t.a, (phR t.w false (mk r).1).2, [], []⟩ :: s) (by have := mk_len r; omega) hr.mk (h4.suf hs) ho
          have h2 : mrun (t :: r) false l s = mrun (mk r).2 false l (some ⟨(phR t.w false (mk r).1).1, t.a, (phR t.w false (mk r).1).2, [], []⟩ :: s) := by rw [mrun_cons, if_pos hv, if_neg hp]
          cases hx : rx n d (mk r).2 with
          | err a e =>
            rw [hx] at h1
            exact h2.trans h1
          | ok its rest =>
            rw [hx] at h1
            obtain ⟨h3, h5⟩ := h1
            obtain ⟨v, r', rfl, hcl⟩ := h5.cl
            refine ⟨?_, h5.up hs⟩
            rw [h2, h3, mrun_shift hcl]
            simp
      · rw [if_neg hv]
        have h1 := opd_ok (n := n) (d := d) (fun ts l s a b c e => ih (d + 1) ts l s a b c e) t r l s (by omega) he h4 hv ho
        cases hx : ropd (rx n (d + 1)) d t r with
        | err a e =>
          rw [hx] at h1
          exact h1
        | ok left rest =>
          rw [hx] at h1
          obtain ⟨h2, h3, h5⟩ := h1
          have h6 := tail_ok (n := n) (d := d) (fun ts l s a b c e => ih d ts l s a b c e) left rest l s (by have := h5.length_le; omega) h3 (h4.suf (h5.trans (List.suffix_cons _ _))) ho
          show RxOk _ _ _ _ _ (rtail (rx n d) left rest)
          cases hy : rtail (rx n d) left rest with
          | err a e =>
            rw [hy] at h6
            exact h2.trans h6
          | ok its rest' =>
            rw [hy] at h6
            exact ⟨h2.trans h6.1, h6.2.up (h5.trans (List.suffix_cons _ _))⟩
/-- What goes to the line's end. -/
def rwhole (ts : List Tk) : Er := match rx ts.length 0 ts with
  | .err a e => .err a e
  | .ok _ [] => .err 0 0
  | .ok l (u :: _) => if u.k = 4 then .ok l else .err u.a 46
theorem whole_eq {ts : List Tk} (he : Ends ts) (h4 : E4 ts) : exprR ts = rwhole ts := by
  have h := rx_ok ts.length 0 ts [] [] (Nat.le_refl _) he h4 rfl
  unfold exprR rwhole
  cases hx : rx ts.length 0 ts with
  | err a e =>
    rw [hx] at h
    exact h
  | ok l rest =>
    rw [hx] at h
    obtain ⟨h1, h2⟩ := h
    obtain ⟨u, r', rfl, hcl⟩ := h2.cl
    rw [h1, List.nil_append, mrun_cons, hcl.1, if_neg (by decide), if_neg (by decide)]
    show _ = if u.k = 4 then Er.ok l else Er.err u.a 46
    by_cases h : u.k = 4
    · rw [if_pos h, if_pos h, if_neg (by decide)]; rfl
    · rw [if_neg h, if_neg h, if_neg (fun h => by have := h.2; simp [opens] at this)]
end Go.Proofs.YtbapgdhcbfpdoaaGreatDoor
/- A line's tokens, as the document's reader goes through them; what lexed words are. Pure. -/
namespace Go.Proofs.YtbapgdhcbfpdoaaGreatDoor
open Go.RowKit
/-- What is left of a line, from I on, with the line's end. -/
def tl (T : List Tk) (E : Int) (I : Nat) : List Tk := T.drop I ++ [⟨4, E, [], 0⟩]
/-- What the tokens of a line are like. -/
structure LT (T : List Tk) : Prop where
  k4 : ∀ t ∈ T, t.k ≠ 4
  k2 : ∀ t ∈ T, t.k = 2 → t.w = []
  kw : ∀ t ∈ T, t.w ≠ [] → t.k = 1 ∨ t.k = 3
  k1 : ∀ t ∈ T, t.k = 1 → wordB t.w = true
  k3 : ∀ t ∈ T, t.k = 3 → wordB t.w = false
  len : ∀ t ∈ T, t.w.length ≤ 16
theorem getD_mem {T : List Tk} {I : Nat} (h : I < T.length) : T.getD I default ∈ T := by
  rw [List.getD_eq_getElem?_getD, List.getElem?_eq_getElem h]; exact List.getElem_mem h
theorem tl_cons {T : List Tk} {E : Int} {I : Nat} (h : I < T.length) : tl T E I = T.getD I default :: tl T E (I + 1) := by
  unfold tl
  rw [List.drop_eq_getElem_cons h, List.getD_eq_getElem?_getD, List.getElem?_eq_getElem h]; rfl
theorem tl_end {T : List Tk} {E : Int} {I : Nat} (h : T.length ≤ I) : tl T E I = [⟨4, E, [], 0⟩] := by
  unfold tl
  rw [List.drop_eq_nil_of_le h]; rfl
theorem tl_len (T : List Tk) (E : Int) (I : Nat) : (tl T E I).length = T.length - I + 1 := by unfold tl; simp
theorem tl_inj {T : List Tk} {E : Int} {I J n : Nat} (hn : T.length = n) (h : tl T E J = tl T E I) (hI : I ≤ n) (hJ : J ≤ n) : I = J := by
  have := congrArg List.length h
  rw [tl_len, tl_len] at this
  omega
theorem tl_ends (T : List Tk) (E : Int) (I : Nat) : Ends (tl T E I) := Ends.snoc _ _ rfl rfl
/-- Is there a mark? -/
def mkd (T : List Tk) (I : Nat) : Prop := I < T.length ∧ ((T.getD I default).w = [47] ∨ (T.getD I default).w = [92] ∨ (T.getD I default).w = [46])
theorem mk_c (t : Tk) (r : List Tk) : mk (t :: r) = if t.w = [47] ∨ t.w = [92] ∨ t.w = [46] then (t.w, r) else ([], t :: r) := rfl
theorem mk_yes {T : List Tk} {E : Int} {I : Nat} (h : mkd T I) : mk (tl T E I) = ((T.getD I default).w, tl T E (I + 1)) := by
  rw [tl_cons h.1, mk_c, if_pos h.2]
theorem mk_no {T : List Tk} {E : Int} {I : Nat} (h : ¬ mkd T I) : mk (tl T E I) = ([], tl T E I) := by
  rcases Nat.lt_or_ge I T.length with h1 | h1
  · rw [tl_cons h1, mk_c, if_neg fun h2 => h ⟨h1, h2⟩]
  · rw [tl_end h1, mk_c, if_neg (by simp)]
theorem pn_num {t : Tk} {r : List Tk} (h : t.k = 2) : pastNums (t :: r) = pastNums r := by simp [pastNums, isNum, h]
theorem pn_not {t : Tk} {r : List Tk} (h : t.k ≠ 2) : pastNums (t :: r) = t :: r := by simp [pastNums, isNum, h]
theorem nn_num {t : Tk} {r : List Tk} (h : t.k = 2) : numsOf (t :: r) = t.n :: numsOf r := by simp [numsOf, isNum, h]
theorem nn_not {t : Tk} {r : List Tk} (h : t.k ≠ 2) : numsOf (t :: r) = [] := by simp [numsOf, isNum, h]
theorem name_word {w : List UInt8} (h : nameB w = true) : wordB w = true := by
  unfold nameB at h
  simp only [Bool.and_eq_true] at h
  exact h.1.1.1
theorem LT.name {T : List Tk} (h : LT T) {t : Tk} (ht : t ∈ T) (hn : nameB t.w = true) : t.k = 1 := by
  have h1 := name_word hn
  have h2 : t.w ≠ [] := by rintro e; rw [e] at h1; cases h1
  rcases h.kw t ht h2 with h3 | h3
  · exact h3
  · rw [h.k3 t ht h3] at h1; cases h1
theorem LT.sub {T U : List Tk} (h : LT T) (hs : ∀ t ∈ U, t ∈ T) : LT U :=
  ⟨fun t ht => h.k4 t (hs t ht), fun t ht => h.k2 t (hs t ht), fun t ht => h.kw t (hs t ht), fun t ht => h.k1 t (hs t ht), fun t ht => h.k3 t (hs t ht), fun t ht => h.len t (hs t ht)⟩
theorem LT.e4 {T : List Tk} (h : LT T) (E : Int) (I : Nat) : E4 (tl T E I) := by
  intro t ht
  unfold tl at ht
  rw [List.mem_append] at ht
  rcases ht with ht | ht
  · exact fun e => (h.k4 t (List.mem_of_mem_drop ht) e).elim
  · simp at ht; subst ht; exact fun _ => rfl
/-- A word that is no verb, and no name, is one of two. -/
theorem word_kw {w : List UInt8} (h1 : wordB w = true) (h2 : vb w = false) (h3 : nameB w = false) : w = [105, 110] ∨ w = [111, 117, 116] := by
  unfold nameB at h3
  rw [h1, h2] at h3
  simp at h3
  by_cases h : w = [105, 110]
  · exact .inl h
  · exact .inr (h3 h)
theorem kw_name {w : List UInt8} (h : w = [105, 110] ∨ w = [111, 117, 116]) : nameB w = false ∧ wordB w = true ∧ vb w = false := by
  rcases h with rfl | rfl <;> decide
theorem piece_word {b : UInt8} {r : List UInt8} {kd v : Int} {w : List UInt8} {k : Nat} (h : piece b r = .tok kd w v k) : (kd = 1 → wordB w = true) ∧ (kd = 3 → wordB w = false) := by
  unfold piece at h
  split at h
  · cases h
  split at h
  · cases h
  split at h
  · injection h with h1 h2; subst h1; exact ⟨fun h => (by cases h), fun h => (by cases h)⟩
  split at h
  · rename_i hl
    split at h
    · cases h
    · rename_i hr
      injection h with h1 h2 h3 h4
      subst h1 h2
      refine ⟨fun _ => ?_, fun h => by cases h⟩
      show (letB b && decide (run alnB (r.take (run alnB r)) = (r.take (run alnB r)).length) && decide ((r.take (run alnB r)).length ≤ 15)) = true
      have e := run_ext alnB r [] (fun c hc => by simp at hc)
      rw [List.append_nil] at e
      rw [hl, e]
      have := run_le alnB r
      simp
      omega
  have hnum : ∀ {o : Option Int} {j : Nat}, numP o j = .tok kd w v k → (kd = 1 → wordB w = true) ∧ (kd = 3 → wordB w = false) := by
    intro o j hp
    cases o with
    | none => cases hp
    | some x => injection hp with h1 h2; subst h1; exact ⟨fun h => (by cases h), fun h => (by cases h)⟩
  split at h
  · exact hnum h
  split at h
  · exact hnum h
  rename_i hl _ _
  split at h
  · injection h with h1 h2 h3 h4
    subst h1 h2
    refine ⟨fun h => (by cases h), fun _ => ?_⟩
    unfold wordB
    simp [hl]
  split at h
  · injection h with h1 h2 h3 h4
    subst h1 h2
    refine ⟨fun h => (by cases h), fun _ => ?_⟩
    unfold wordB
    simp [hl]
  · cases h
theorem lex_words : ∀ (n : Nat) (l : List UInt8) (a : Int), l.length ≤ n → ∀ ts, lexL l a = .ok ts → ∀ t ∈ ts, (t.k = 1 → wordB t.w = true) ∧ (t.k = 3 → wordB t.w = false) := by
  intro n
  induction n with
  | zero =>
    intro l a hl ts h
    obtain rfl : l = [] := List.length_eq_zero_iff.1 (by omega)
    rw [lex_nil] at h; injection h with h; subst h
    exact fun t ht => by simp at ht
  | succ n ih =>
    intro l a hl ts h
    cases l with
    | nil => rw [lex_nil] at h; injection h with h; subst h; exact fun t ht => by simp at ht
    | cons b r =>
      simp at hl
      cases hp : piece b r with
      | skip k =>
        rw [lex_skip hp] at h
        exact ih _ _ (by rw [List.length_drop]; omega) _ h
      | tok kd w v k =>
        rw [lex_tok hp] at h
        obtain ⟨vs, hv, rfl⟩ := pre_ok h
        have h1 := ih _ _ (by rw [List.length_drop]; omega) _ hv
        intro t ht
        simp only [List.cons_append, List.nil_append, List.mem_cons] at ht
        rcases ht with rfl | ht
        · exact piece_word hp
        · exact h1 t ht
      | bad e => rw [lex_bad hp] at h; cases h
end Go.Proofs.YtbapgdhcbfpdoaaGreatDoor
