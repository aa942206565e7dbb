/- The ring of polynomials: what the law of rings and the law of values say, of lists. -/
import Derived.Test.YtogflbpphacokaaPolyLB
namespace Go.Proofs.Ytogflbpphacokaa

theorem wholeR_eq (ms : List Mo) : wholeR (accL ms) = if rightB (sumL ms) = true then (sumL ms, 0) else ([], 21) := rfl
theorem sum_same {ms ns : List Mo} (h : Sm ms) (g : Sm ns) (hc : ∀ f, lin f ms = lin f ns) : sumL ms = sumL ns :=
  canon (fall_sumL ms) (fall_sumL ns) (sum_wf h) (sum_wf g) fun c => by
    show lin _ _ = lin _ _
    rw [lin_sumL, lin_sumL]; exact hc _
theorem sum_self {ms p : List Mo} (h : Sm ms) (hp : rightB p = true) (wp : ∀ m ∈ p, m.wf) (hc : ∀ f, lin f ms = lin f p) : sumL ms = p :=
  canon (fall_sumL ms) ((right_iff p).1 hp).2.1 (sum_wf h) (fun x hx => ⟨wp x hx, (((right_iff p).1 hp).2.2 x hx).1⟩) fun c => by
    show lin _ _ = lin _ _
    rw [lin_sumL]; exact hc _
theorem lin_sum (f : Int → Int) (t : Int) (p q : List Mo) : lin f (p ++ q.map (Mo.times t)) = lin f p + t * lin f q := by rw [lin_append, lin_times]
theorem addR_ok {t : Int} {p q : List Mo} (h : (addR t p q).2 = 0) : rightB p = true ∧ rightB q = true ∧ rightB (sumL (p ++ q.map (Mo.times t))) = true ∧ addR t p q = (sumL (p ++ q.map (Mo.times t)), 0) := by
  by_cases hr : rightB p = true ∧ rightB q = true
  · rw [addR_yes hr.1 hr.2, wholeR_eq] at h ⊢
    split at h
    · rename_i h1; exact ⟨hr.1, hr.2, h1, by rw [if_pos h1]⟩
    · cases h
  · rw [addR_no hr] at h; cases h
theorem mulR_ok {p q : List Mo} (h : (mulR p q).2 = 0) : rightB p = true ∧ rightB q = true ∧ rightB (sumL (prods p q)) = true ∧ mulR p q = (sumL (prods p q), 0) := by
  by_cases hr : rightB p = true ∧ rightB q = true
  · rw [mulR_yes hr.1 hr.2, wholeR_eq] at h ⊢
    split at h
    · rename_i h1; exact ⟨hr.1, hr.2, h1, by rw [if_pos h1]⟩
    · cases h
  · rw [mulR_no hr] at h; cases h
theorem addR_else {t : Int} {p q : List Mo} (h : ¬ (addR t p q).2 = 0) : (addR t p q).1 = [] := by
  by_cases hr : rightB p = true ∧ rightB q = true
  · rw [addR_yes hr.1 hr.2, wholeR_eq] at h ⊢
    split at h
    · exact (h rfl).elim
    · rename_i h1; rw [if_neg h1]
  · rw [addR_no hr]
theorem mulR_else {p q : List Mo} (h : ¬ (mulR p q).2 = 0) : (mulR p q).1 = [] := by
  by_cases hr : rightB p = true ∧ rightB q = true
  · rw [mulR_yes hr.1 hr.2, wholeR_eq] at h ⊢
    split at h
    · exact (h rfl).elim
    · rename_i h1; rw [if_neg h1]
  · rw [mulR_no hr]
theorem addR_mk {t : Int} {p q l : List Mo} (hp : rightB p = true) (hq : rightB q = true) (hs : sumL (p ++ q.map (Mo.times t)) = l) (hl : rightB l = true) : addR t p q = (l, 0) := by
  rw [addR_yes hp hq, wholeR_eq, hs, if_pos hl]

section
variable {p q r : List Mo} (wp : ∀ m ∈ p, m.wf) (wq : ∀ m ∈ q, m.wf) (wr : ∀ m ∈ r, m.wf)
include wp wq
theorem ring1 : addR 1 p q = addR 1 q p := by
  by_cases hr : rightB p = true ∧ rightB q = true
  · rw [addR_yes hr.1 hr.2, addR_yes hr.2 hr.1, wholeR_eq, wholeR_eq, sum_same (sm_add (.inl rfl) hr.1 hr.2 wp wq) (sm_add (.inl rfl) hr.2 hr.1 wq wp) (fun f => by rw [lin_sum, lin_sum]; omega)]
  · rw [addR_no hr, addR_no (fun h => hr ⟨h.2, h.1⟩)]
theorem ring2 : mulR p q = mulR q p := by
  by_cases hr : rightB p = true ∧ rightB q = true
  · rw [mulR_yes hr.1 hr.2, mulR_yes hr.2 hr.1, wholeR_eq, wholeR_eq, sum_same (sm_mul hr.1 hr.2 wp wq) (sm_mul hr.2 hr.1 wq wp) (fun f => lin_prods_comm f p q)]
  · rw [mulR_no hr, mulR_no (fun h => hr ⟨h.2, h.1⟩)]
theorem ring3 (h : (addR 1 p q).2 = 0) : addR (-1) (addR 1 p q).1 q = (p, 0) := by
  obtain ⟨hp, hq, hs, he⟩ := addR_ok h
  have wa : ∀ m ∈ (addR 1 p q).1, m.wf := (add_ok (.inl rfl) wp wq).2
  rw [he] at wa ⊢
  refine addR_mk hs hq (sum_self (sm_add (.inr rfl) hs hq wa wq) hp wp fun f => ?_) hp
  rw [lin_sum, lin_sumL, lin_sum]; omega
theorem ring4 (h : (addR 1 p q).2 = 0) : addR (-1) (addR 1 p q).1 (addR 1 p q).1 = ([], 0) := by
  obtain ⟨hp, hq, hs, he⟩ := addR_ok h
  have wa : ∀ m ∈ (addR 1 p q).1, m.wf := (add_ok (.inl rfl) wp wq).2
  rw [he] at wa ⊢
  refine addR_mk hs hs (sum_self (sm_add (.inr rfl) hs hs wa wa) (p := []) (by kernel_rfl) (fun _ hm => by cases hm) fun f => ?_) (by kernel_rfl)
  rw [lin_sum, lin_sumL, lin_sum]; simp only [lin]; omega
omit wp wq in
theorem ring5 (h : (addR 1 p q).2 = 0) : rightB (addR 1 p q).1 = true := by
  obtain ⟨hp, hq, hs, he⟩ := addR_ok h
  rw [he]; exact hs
include wr
theorem ring6 (h : (addR 1 p q).2 = 0) (h1 : (mulR (addR 1 p q).1 r).2 = 0) (h2 : (mulR p r).2 = 0) (h3 : (mulR q r).2 = 0) : addR 1 (mulR p r).1 (mulR q r).1 = ((mulR (addR 1 p q).1 r).1, 0) := by
  obtain ⟨hp, hq, hs, he⟩ := addR_ok h
  have wa : ∀ m ∈ (addR 1 p q).1, m.wf := (add_ok (.inl rfl) wp wq).2
  rw [he] at h1 wa ⊢
  obtain ⟨_, hr, hL, heL⟩ := mulR_ok h1
  obtain ⟨_, _, hX, heX⟩ := mulR_ok h2
  obtain ⟨_, _, hY, heY⟩ := mulR_ok h3
  have wX : ∀ m ∈ (mulR p r).1, m.wf := (mul_ok wp wr).2
  have wY : ∀ m ∈ (mulR q r).1, m.wf := (mul_ok wq wr).2
  rw [heL, heX, heY]
  rw [heX] at wX
  rw [heY] at wY
  refine addR_mk hX hY (sum_same (sm_add (.inl rfl) hX hY wX wY) (sm_mul hs hr wa wr) fun f => ?_) hL
  rw [lin_sum, lin_sumL, lin_sumL, lin_prods, lin_prods, lin_prods]
  show _ = lin _ (sumL (p ++ q.map (Mo.times 1)))
  rw [lin_sumL, lin_sum]
end

-- values: a monomial's own value is a function of its code
def dec (c : Int) : Mo := ⟨0, c / 1099511627776, c / 4294967296 % 256, c / 16777216 % 256, c / 65536 % 256, c / 256 % 256, c % 256⟩
theorem mon_same (D : Nat → Nat) {a b : Mo} (h : ∀ k, k < 6 → a.e k = b.e k) : mon D a = mon D b := by
  simp only [mon, monTo, h 0 (by omega), h 1 (by omega), h 2 (by omega), h 3 (by omega), h 4 (by omega), h 5 (by omega)]
theorem mon_dec (D : Nat → Nat) {m : Mo} (h : m.wf) : mon D (dec m.code) = mon D m := by
  obtain ⟨h0, h1, h2, h3, h4, h5⟩ := Mo.es h
  refine mon_same D fun k hk => ?_
  match k, hk with
  | 0, _ => show m.code / 1099511627776 = m.e0; unfold Mo.code; omega
  | 1, _ => show m.code / 4294967296 % 256 = m.e1; unfold Mo.code; omega
  | 2, _ => show m.code / 16777216 % 256 = m.e2; unfold Mo.code; omega
  | 3, _ => show m.code / 65536 % 256 = m.e3; unfold Mo.code; omega
  | 4, _ => show m.code / 256 % 256 = m.e4; unfold Mo.code; omega
  | 5, _ => show m.code % 256 = m.e5; unfold Mo.code; omega
theorem val_lin (D : Nat → Nat) : ∀ {l : List Mo}, (∀ m ∈ l, m.wf) → val D l = lin (fun c => (mon D (dec c) : Nat)) l
  | [], _ => rfl
  | m :: l, h => by
    simp only [val, lin, valM]
    rw [val_lin D (fun x hx => h x (List.mem_cons_of_mem _ hx)), mon_dec D (h m (List.mem_cons_self ..))]
theorem val_sum (D : Nat → Nat) {ms : List Mo} (h : Sm ms) : val D (sumL ms) = val D ms := by
  rw [val_lin D (fun m hm => (sum_wf h m hm).1), lin_sumL, val_lin D (fun m hm => (h.2 m hm).1)]
theorem val_times (D : Nat → Nat) (t : Int) (l : List Mo) : val D (l.map (Mo.times t)) = t * val D l := by
  induction l with
  | nil => simp [val]
  | cons a l ih => simp only [List.map_cons, val, ih, Int.mul_add]; congr 1; show t * a.n * _ = t * (a.n * _); rw [Int.mul_assoc]; rfl
theorem mon_mul (D : Nat → Nat) {a b : Mo} (ha : a.wf) (hb : b.wf) : mon D (a.mul b) = mon D a * mon D b := by
  obtain ⟨h0, h1, h2, h3, h4, h5⟩ := Mo.es ha
  obtain ⟨g0, g1, g2, g3, g4, g5⟩ := Mo.es hb
  have ad : ∀ x y : Int, 0 ≤ x → 0 ≤ y → (x + y).toNat = x.toNat + y.toNat := fun x y _ _ => by omega
  simp only [mon, monTo, Mo.e, Mo.mul]
  rw [ad _ _ h0.1 g0.1, ad _ _ h1.1 g1.1, ad _ _ h2.1 g2.1, ad _ _ h3.1 g3.1, ad _ _ h4.1 g4.1, ad _ _ h5.1 g5.1]
  simp only [Nat.pow_add, Nat.one_mul]
  ac_rfl
theorem valM_mul (D : Nat → Nat) {a b : Mo} (ha : a.wf) (hb : b.wf) : valM D (a.mul b) = valM D a * valM D b := by
  unfold valM
  rw [mon_mul D ha hb, Int.natCast_mul]
  show a.n * b.n * _ = _
  ac_rfl
theorem val_map (D : Nat → Nat) {a : Mo} (ha : a.wf) : ∀ {q : List Mo}, (∀ m ∈ q, m.wf) → val D (q.map fun b => a.mul b) = valM D a * val D q
  | [], _ => by simp [val]
  | b :: q, h => by
    simp only [List.map_cons, val]
    rw [val_map D ha (fun x hx => h x (List.mem_cons_of_mem _ hx)), valM_mul D ha (h b (List.mem_cons_self ..)), Int.mul_add]
theorem val_prods (D : Nat → Nat) {q : List Mo} (hq : ∀ m ∈ q, m.wf) : ∀ {p : List Mo}, (∀ m ∈ p, m.wf) → val D (prods p q) = val D p * val D q
  | [], _ => by simp [val, prods]
  | a :: p, h => by
    have : prods (a :: p) q = (q.map fun b => a.mul b) ++ prods p q := rfl
    rw [this, val_append, val_map D (h a (List.mem_cons_self ..)) hq, val_prods D hq (fun x hx => h x (List.mem_cons_of_mem _ hx))]
    simp only [val, Int.add_mul]

theorem eval_good {p : List Mo} {ds : List Int} (h : (evalR p ds).2 = 0) : (evalR p ds).1 = val (DV ds) p ∧ -4611686018427387904 ≤ (evalR p ds).1 ∧ (evalR p ds).1 ≤ 4611686018427387904 ∧ rightB p = true ∧ dimsOk ds = true := by
  unfold evalR at h ⊢
  split at h
  · split at h
    · split at h
      · rename_i h1 h2 h3
        rw [if_pos h1, if_pos h2, if_pos h3]
        have := val_le (DV ds) p
        exact ⟨rfl, by show _ ≤ val _ _; omega, by show val _ _ ≤ _; omega, h1, h2⟩
      · cases h
    · cases h
  · cases h
theorem eval_else {p : List Mo} {ds : List Int} (h : ¬ (evalR p ds).2 = 0) : (evalR p ds).1 = 0 := by
  unfold evalR at h ⊢
  split
  · split
    · split
      · rename_i h1 h2 h3
        rw [if_pos h1, if_pos h2, if_pos h3] at h
        exact (h rfl).elim
      · rfl
    · rfl
  · rfl
section
variable {p q : List Mo} {ds : List Int} (wp : ∀ m ∈ p, m.wf) (wq : ∀ m ∈ q, m.wf) (he : (evalR p ds).2 = 0) (hf : (evalR q ds).2 = 0)
include wp wq he hf
theorem values_sum {t : Int} (ht : t = 1 ∨ t = -1) (hg : (addR t p q).2 = 0) (hh : (evalR (addR t p q).1 ds).2 = 0) : (evalR (addR t p q).1 ds).1 = (evalR p ds).1 + t * (evalR q ds).1 := by
  rw [(eval_good hh).1, (eval_good he).1, (eval_good hf).1, (addR_ok hg).2.2.2]
  show val _ (sumL _) = _
  rw [val_sum _ (sm_add ht (eval_good he).2.2.2.1 (eval_good hf).2.2.2.1 wp wq), val_append, val_times]
theorem values_mul (hg : (mulR p q).2 = 0) (hh : (evalR (mulR p q).1 ds).2 = 0) : (evalR (mulR p q).1 ds).1 = (evalR p ds).1 * (evalR q ds).1 := by
  rw [(eval_good hh).1, (eval_good he).1, (eval_good hf).1, (mulR_ok hg).2.2.2]
  show val _ (sumL _) = _
  rw [val_sum _ (sm_mul (eval_good he).2.2.2.1 (eval_good hf).2.2.2.1 wp wq), val_prods _ wq wp]
end
end Go.Proofs.Ytogflbpphacokaa
