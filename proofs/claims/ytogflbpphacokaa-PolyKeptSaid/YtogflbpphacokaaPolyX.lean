/- What is gathered out of a map, put in order, is what is put together in order. -/
import Derived.Test.YtogflbpphacokaaPolyV
namespace Go.Proofs.Ytogflbpphacokaa
open Go.RowKit

theorem lin_perm (f : Int → Int) {l r : List Mo} (h : l.Perm r) : lin f l = lin f r := by
  induction h with
  | nil => rfl
  | cons x _ ih => simp only [lin, ih]
  | swap x y l => simp only [lin]; omega
  | trans _ _ h1 h2 => exact h1.trans h2
theorem coef_none {l : List Mo} {c : Int} (h : ∀ x ∈ l, x.code ≠ c) : coef l c = 0 := by
  induction l with
  | nil => rfl
  | cons a t ih => rw [coef_cons, ih (fun x hx => h x (by simp [hx])), if_neg (h a (by simp))]; rfl
theorem coef_mem : ∀ {l : List Mo}, l.Pairwise (fun a b => a.code ≠ b.code) → ∀ {x : Mo}, x ∈ l → coef l x.code = x.n
  | [], _, x, h => by simp at h
  | a :: t, hp, x, h => by
    obtain ⟨h1, h2⟩ := List.pairwise_cons.1 hp
    rcases List.mem_cons.1 h with rfl | h
    · rw [coef_cons, if_pos rfl, coef_none (fun y hy => (h1 y hy).symm), Int.add_zero]
    · rw [coef_cons, if_neg (h1 x h), coef_mem h2 h, Int.zero_add]
theorem sum_wf {ms : List Mo} (hs : Sm ms) : ∀ x ∈ sumL ms, x.wf ∧ x.n ≠ 0 := by
  intro x hx
  have h := hs.acc ms.length x
  rw [List.take_length] at h
  exact ⟨(h (List.mem_filter.1 hx).1).1, nz_sumL hx⟩
theorem poly_canon {ms L L' : List Mo} (hs : Sm ms) (hL : ∀ x ∈ L, x.wf ∧ x.n ≠ 0) (hp : L'.Perm L) (hf : Fall L') (hc : ∀ k, coef L k = coef ms k) : L' = sumL ms :=
  canon hf (fall_sumL ms) (fun x hx => hL x (hp.mem_iff.1 hx)) (sum_wf hs) (fun k => by
    rw [show coef L' k = coef L k from lin_perm _ hp, hc k]; exact (lin_sumL _ ms).symm)

/-- What is gathered so far, of the map D: L; 'left': what is still to come. -/
structure PInv (D : DataW Unit) (left : Lit → Bool) (cnt : Nat) (L : List Mo) : Prop where
  each : ∀ m ∈ L, m.wf ∧ m.n ≠ 0 ∧ left (KL m) = false ∧ D.atKey (KL m) (.lit (.int .i64 0)) = .lit (.int .i64 m.n)
  apart : L.Pairwise fun a b => a.code ≠ b.code
  all : ∀ m : Mo, m.wf → Maps.has D (KL m) = true → left (KL m) = false → D.atKey (KL m) (.lit (.int .i64 0)) ≠ .lit (.int .i64 0) → ∃ x ∈ L, x.code = m.code
  few : L.length + cnt ≤ Maps.size D
theorem PInv.start (D : DataW Unit) : PInv D (Maps.has D) (Maps.size D) [] :=
  ⟨by simp, List.Pairwise.nil, fun m _ h1 h2 => (by rw [h1] at h2; cases h2), by simp⟩
theorem left_kl {left : Lit → Bool} {x m : Mo} (h : (left (KL m) && !(KL m).sameKey (KL x)) = false) : left (KL m) = false ∨ KL m = KL x := by
  cases hl : left (KL m) with
  | false => exact .inl rfl
  | true =>
    rw [hl] at h
    refine .inr (WideAt.sameKey_eq ?_)
    simpa using h
theorem PInv.skip {D : DataW Unit} {left : Lit → Bool} {cnt cnt' : Nat} {L : List Mo} (h : PInv D left cnt L) {x : Mo} (hat : D.atKey (KL x) (.lit (.int .i64 0)) = .lit (.int .i64 0)) (hc : cnt' < cnt) : PInv D (fun z => left z && !z.sameKey (KL x)) cnt' L := by
  refine ⟨fun m hm => ?_, h.apart, fun m hm h1 h2 h3 => ?_, by have := h.few; omega⟩
  · obtain ⟨a, b, c, d⟩ := h.each m hm
    exact ⟨a, b, by rw [c]; rfl, d⟩
  · rcases left_kl h2 with h4 | h4
    · exact h.all m hm h1 h4 h3
    · rw [h4] at h3; exact absurd hat h3
theorem PInv.more {D : DataW Unit} {left : Lit → Bool} {cnt cnt' : Nat} {L : List Mo} (h : PInv D left cnt L) {x : Mo} (hx : x.wf) (hn : x.n ≠ 0) (hl : left (KL x) = true) (hat : D.atKey (KL x) (.lit (.int .i64 0)) = .lit (.int .i64 x.n)) (hc : cnt' < cnt) : PInv D (fun z => left z && !z.sameKey (KL x)) cnt' (L ++ [x]) := by
  have hk : WideAt.IsKeyLit (KL x) := keyed.key (keyOf_mk hx)
  refine ⟨fun m hm => ?_, ?_, fun m hm h1 h2 h3 => ?_, by have := h.few; rw [List.length_append, List.length_singleton]; omega⟩
  · rcases List.mem_append.1 hm with hm | hm
    · obtain ⟨a, b, c, d⟩ := h.each m hm
      exact ⟨a, b, by rw [c]; rfl, d⟩
    · obtain rfl := List.mem_singleton.1 hm
      exact ⟨hx, hn, by rw [WideAt.sameKey_self hk]; simp, hat⟩
  · refine List.pairwise_append.2 ⟨h.apart, by simp, fun a ha b hb e => ?_⟩
    obtain rfl := List.mem_singleton.1 hb
    obtain ⟨wa, _, la, _⟩ := h.each a ha
    rw [KL_of wa hx e, hl] at la
    cases la
  · rcases left_kl h2 with h4 | h4
    · obtain ⟨y, hy, e⟩ := h.all m hm h1 h4 h3
      exact ⟨y, by simp [hy], e⟩
    · exact ⟨x, by simp, (KL_inj hm hx h4).symm⟩
theorem PInv.done {D : DataW Unit} {left : Lit → Bool} {cnt : Nat} {L ms : List Mo} (h : PInv D left cnt L) (hl : ∀ kl, left kl = false) (hms : ∀ m ∈ ms, m.wf) (hD : ∀ m : Mo, m.wf → D.atKey (KL m) (.lit (.int .i64 0)) = .lit (.int .i64 (coef ms m.code))) (k : Int) : coef L k = coef ms k := by
  by_cases hk : ∃ m : Mo, m.wf ∧ m.code = k
  · obtain ⟨m, hm, rfl⟩ := hk
    by_cases hx : ∃ x ∈ L, x.code = m.code
    · obtain ⟨x, hx, e⟩ := hx
      obtain ⟨wx, _, _, hat⟩ := h.each x hx
      rw [← e, coef_mem h.apart hx]
      rw [hD x wx] at hat
      injection hat with hat
      injection hat with _ hat
      exact hat.symm
    · rw [coef_none (fun x hxL e => hx ⟨x, hxL, e⟩)]
      have h0 : D.atKey (KL m) (.lit (.int .i64 0)) = .lit (.int .i64 0) := by
        cases hh : Maps.has D (KL m) with
        | false => exact Maps.atKey_of_not_has hh _
        | true =>
          refine Classical.byContradiction fun hne => hx (h.all m hm hh (hl _) hne)
      rw [hD m hm] at h0
      injection h0 with h0
      injection h0 with _ h0
      exact h0.symm
  · rw [coef_none (fun x hx e => hk ⟨x, (h.each x hx).1, e⟩), coef_none (fun x hx e => hk ⟨x, hms x hx, e⟩)]
theorem size_le {w : World} {b n : Nat} {D : DataW Unit} (h : w.ownsMap Try.prog 52 (plainElem Try.prog 2) b n D) : Maps.size D ≤ n := by
  obtain ⟨es, clock, _, _, hs, rfl⟩ := h
  rw [Maps.size_eq, length_sorted, List.length_map]
  simpa using hs
theorem coef_snoc (l : List Mo) (m : Mo) (c : Int) : coef (l ++ [m]) c = coef l c + if m.code = c then m.n else 0 := by
  rw [coef_append, coef_cons]; simp [coef, lin]
end Go.Proofs.Ytogflbpphacokaa
