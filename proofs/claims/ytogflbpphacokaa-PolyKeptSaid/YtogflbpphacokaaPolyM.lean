/- Monomials and polynomials as plain numbers and lists: imports nothing of the program. -/
import Derived.RowKit
import Derived.IntWalk
namespace Go.Proofs.Ytogflbpphacokaa
open Go.RowKit

/-- A monomial: a factor, six exponents. -/
structure Mo where
  n : Int
  e0 : Int
  e1 : Int
  e2 : Int
  e3 : Int
  e4 : Int
  e5 : Int
deriving DecidableEq, Inhabited

/-- The exponent of variable k. -/
def Mo.e (m : Mo) (k : Nat) : Int := match k with
  | 0 => m.e0
  | 1 => m.e1
  | 2 => m.e2
  | 3 => m.e3
  | 4 => m.e4
  | 5 => m.e5
  | _ => 0
def Mo.cell (m : Mo) (j : Nat) : Value := if j = 0 then .int .i64 m.n else .int .u8 (m.e (j - 1))
def Mo.cells (m : Mo) : List Value := [.int .i64 m.n, .int .u8 m.e0, .int .u8 m.e1, .int .u8 m.e2, .int .u8 m.e3, .int .u8 m.e4, .int .u8 m.e5]
def Mo.wf (m : Mo) : Prop := (-9223372036854775808 ≤ m.n ∧ m.n ≤ 9223372036854775807) ∧ ∀ k, 0 ≤ m.e k ∧ m.e k ≤ 255
def Mo.deg (m : Mo) : Int := m.e0 + m.e1 + m.e2 + m.e3 + m.e4 + m.e5
def Mo.part (m : Mo) (k : Nat) : Int := match k with
  | 0 => 0
  | k + 1 => m.part k + m.e k
theorem Mo.part_bd {m : Mo} (h : m.wf) (k : Nat) : 0 ≤ m.part k ∧ m.part k ≤ 255 * k := by
  induction k with
  | zero => simp [Mo.part]
  | succ k ih => have := h.2 k; simp only [Mo.part]; omega
theorem Mo.part6 (m : Mo) : m.part 6 = m.deg := by simp [Mo.part, Mo.deg, Mo.e]
theorem Mo.es {m : Mo} (h : m.wf) : (0 ≤ m.e0 ∧ m.e0 ≤ 255) ∧ (0 ≤ m.e1 ∧ m.e1 ≤ 255) ∧ (0 ≤ m.e2 ∧ m.e2 ≤ 255) ∧ (0 ≤ m.e3 ∧ m.e3 ≤ 255) ∧ (0 ≤ m.e4 ∧ m.e4 ≤ 255) ∧ (0 ≤ m.e5 ∧ m.e5 ≤ 255) :=
  ⟨h.2 0, h.2 1, h.2 2, h.2 3, h.2 4, h.2 5⟩
theorem Mo.wf_mk {m : Mo} (hn : -9223372036854775808 ≤ m.n ∧ m.n ≤ 9223372036854775807) (h0 : 0 ≤ m.e0 ∧ m.e0 ≤ 255) (h1 : 0 ≤ m.e1 ∧ m.e1 ≤ 255) (h2 : 0 ≤ m.e2 ∧ m.e2 ≤ 255) (h3 : 0 ≤ m.e3 ∧ m.e3 ≤ 255) (h4 : 0 ≤ m.e4 ∧ m.e4 ≤ 255) (h5 : 0 ≤ m.e5 ∧ m.e5 ≤ 255) : m.wf :=
  ⟨hn, fun k => match k with
    | 0 => h0
    | 1 => h1
    | 2 => h2
    | 3 => h3
    | 4 => h4
    | 5 => h5
    | k + 6 => by simp [Mo.e]⟩

/-! ### the order of monomials: their exponents as one number -/
def Mo.code (m : Mo) : Int := ((((m.e0 * 256 + m.e1) * 256 + m.e2) * 256 + m.e3) * 256 + m.e4) * 256 + m.e5
/-- The first k exponents as one number. -/
def Mo.pre (m : Mo) (k : Nat) : Int := match k with
  | 0 => 0
  | k + 1 => m.pre k * 256 + m.e k
theorem Mo.pre6 (m : Mo) : m.pre 6 = m.code := by simp [Mo.pre, Mo.code, Mo.e]
theorem Mo.code_inj {a b : Mo} (ha : a.wf) (hb : b.wf) (h : a.code = b.code) : a.e0 = b.e0 ∧ a.e1 = b.e1 ∧ a.e2 = b.e2 ∧ a.e3 = b.e3 ∧ a.e4 = b.e4 ∧ a.e5 = b.e5 := by
  have := Mo.es ha; have := Mo.es hb; unfold Mo.code at h; omega
theorem Mo.eq_of {a b : Mo} (ha : a.wf) (hb : b.wf) (h : a.code = b.code) (hn : a.n = b.n) : a = b := by
  have := Mo.code_inj ha hb h
  cases a; cases b; simp_all
theorem Mo.pre_lt {a b : Mo} (ha : a.wf) (hb : b.wf) : ∀ (d k : Nat), a.pre k < b.pre k → a.pre (k + d) < b.pre (k + d)
  | 0, k, h => h
  | d + 1, k, h => by
    have h1 : a.pre (k + 1) < b.pre (k + 1) := by
      have := ha.2 k; have := hb.2 k; simp only [Mo.pre]; omega
    have := Mo.pre_lt ha hb d (k + 1) h1
    rw [show k + (d + 1) = k + 1 + d from by omega]; exact this
theorem Mo.code_lt {a b : Mo} (ha : a.wf) (hb : b.wf) {k : Nat} (hk : k < 6) (h : a.pre k = b.pre k) (hlt : a.e k < b.e k) : a.code < b.code := by
  rw [← Mo.pre6, ← Mo.pre6]
  have h1 : a.pre (k + 1) < b.pre (k + 1) := by simp only [Mo.pre]; omega
  have := Mo.pre_lt ha hb (5 - k) (k + 1) h1
  rwa [show k + 1 + (5 - k) = 6 from by omega] at this

/-! ### sums over lists -/
def lin (f : Int → Int) : List Mo → Int
  | [] => 0
  | m :: l => m.n * f m.code + lin f l
def one (c k : Int) : Int := if k = c then 1 else 0
def coef (l : List Mo) (c : Int) : Int := lin (one c) l
theorem lin_append (f : Int → Int) (l r : List Mo) : lin f (l ++ r) = lin f l + lin f r := by
  induction l with
  | nil => simp [lin]
  | cons a l ih => simp only [List.cons_append, lin, ih]; omega
theorem coef_cons (m : Mo) (l : List Mo) (c : Int) : coef (m :: l) c = (if m.code = c then m.n else 0) + coef l c := by
  unfold coef; simp only [lin, one]; split <;> simp
theorem coef_append (l r : List Mo) (c : Int) : coef (l ++ r) c = coef l c + coef r c := lin_append _ l r

def Fall (l : List Mo) : Prop := l.Pairwise fun a b => b.code < a.code

/-- A list in order with a monomial more. -/
def putL : List Mo → Mo → List Mo
  | [], m => [m]
  | a :: t, m => if m.code < a.code then a :: putL t m else if a.code = m.code then { a with n := a.n + m.n } :: t else m :: a :: t
theorem lin_putL (f : Int → Int) (l : List Mo) (m : Mo) : lin f (putL l m) = lin f l + m.n * f m.code := by
  induction l with
  | nil => simp [putL, lin]
  | cons a t ih =>
    unfold putL
    split
    · simp only [lin, ih]; omega
    · split
      · rename_i h
        have e : ({ a with n := a.n + m.n } : Mo).code = a.code := rfl
        simp only [lin, e, h, Int.add_mul]; omega
      · simp only [lin]; omega
theorem mem_putL {l : List Mo} {m x : Mo} (h : x ∈ putL l m) : x.code = m.code ∨ ∃ y ∈ l, x.code = y.code := by
  induction l with
  | nil => simp [putL] at h; exact .inl (by rw [h])
  | cons a t ih =>
    unfold putL at h
    split at h
    · rcases List.mem_cons.1 h with rfl | h
      · exact .inr ⟨x, by simp, rfl⟩
      · rcases ih h with h | ⟨y, hy, h⟩
        · exact .inl h
        · exact .inr ⟨y, by simp [hy], h⟩
    · split at h
      · rcases List.mem_cons.1 h with rfl | h
        · exact .inr ⟨a, by simp, rfl⟩
        · exact .inr ⟨x, by simp [h], rfl⟩
      · rcases List.mem_cons.1 h with rfl | h
        · exact .inl rfl
        · exact .inr ⟨x, by simpa using h, rfl⟩
theorem fall_putL {l : List Mo} {m : Mo} (h : Fall l) : Fall (putL l m) := by
  induction l with
  | nil => simp [putL, Fall]
  | cons a t ih =>
    obtain ⟨h1, h2⟩ := List.pairwise_cons.1 h
    unfold putL
    split
    · rename_i hlt
      refine List.pairwise_cons.2 ⟨fun x hx => ?_, ih h2⟩
      rcases mem_putL hx with e | ⟨y, hy, e⟩
      · rw [e]; exact hlt
      · rw [e]; exact h1 y hy
    · split
      · exact List.pairwise_cons.2 ⟨h1, h2⟩
      · rename_i h3 h4
        refine List.pairwise_cons.2 ⟨fun x hx => ?_, h⟩
        rcases List.mem_cons.1 hx with rfl | hx
        · omega
        · have := h1 x hx; omega
theorem wf_putL {l : List Mo} {m : Mo} {B C : Int} (hB : B + C ≤ 4611686018427387904) (hC : 0 ≤ C) (hB0 : 0 ≤ B) (h : ∀ x ∈ l, x.wf ∧ -B ≤ x.n ∧ x.n ≤ B) (hm : m.wf ∧ -C ≤ m.n ∧ m.n ≤ C) : ∀ x ∈ putL l m, x.wf ∧ -(B + C) ≤ x.n ∧ x.n ≤ B + C := by
  induction l with
  | nil => intro x hx; simp [putL] at hx; subst hx; exact ⟨hm.1, by omega, by omega⟩
  | cons a t ih =>
    have ha := h a (by simp)
    have ht := ih (fun x hx => h x (by simp [hx]))
    intro x hx
    unfold putL at hx
    split at hx
    · rcases List.mem_cons.1 hx with rfl | hx
      · exact ⟨ha.1, by omega, by omega⟩
      · exact ht x hx
    · split at hx
      · rcases List.mem_cons.1 hx with rfl | hx
        · exact ⟨⟨by show _ ≤ a.n + m.n ∧ a.n + m.n ≤ _; omega, ha.1.2⟩, by show _ ≤ a.n + m.n; omega, by show a.n + m.n ≤ _; omega⟩
        · have := h x (by simp [hx]); exact ⟨this.1, by omega, by omega⟩
      · rcases List.mem_cons.1 hx with rfl | hx
        · exact ⟨hm.1, by omega, by omega⟩
        · have := h x hx; exact ⟨this.1, by omega, by omega⟩
theorem length_putL (l : List Mo) (m : Mo) : (putL l m).length ≤ l.length + 1 := by
  induction l with
  | nil => simp [putL]
  | cons a t ih => unfold putL; split <;> (try split) <;> simp <;> omega

/-- All put together, in order. -/
def accL (ms : List Mo) : List Mo := ms.foldl putL []
def nz (m : Mo) : Bool := m.n != 0
def sumL (ms : List Mo) : List Mo := (accL ms).filter nz
theorem accL_snoc (ms : List Mo) (m : Mo) : accL (ms ++ [m]) = putL (accL ms) m := by simp [accL]
theorem foldl_acc (f : Int → Int) : ∀ (ms l : List Mo), lin f (ms.foldl putL l) = lin f l + lin f ms
  | [], l => by simp [lin]
  | m :: ms, l => by rw [List.foldl_cons, foldl_acc f ms, lin_putL, lin]; omega
theorem lin_accL (f : Int → Int) (ms : List Mo) : lin f (accL ms) = lin f ms := by rw [accL, foldl_acc]; simp [lin]
theorem lin_filter (f : Int → Int) (l : List Mo) : lin f (l.filter nz) = lin f l := by
  induction l with
  | nil => rfl
  | cons a t ih =>
    by_cases h : a.n = 0
    · rw [List.filter_cons_of_neg (by simp [nz, h])]; simp [lin, h, ih]
    · rw [List.filter_cons_of_pos (by simp [nz, h])]; simp [lin, ih]
theorem lin_sumL (f : Int → Int) (ms : List Mo) : lin f (sumL ms) = lin f ms := by rw [sumL, lin_filter, lin_accL]
theorem foldl_fall : ∀ (ms l : List Mo), Fall l → Fall (ms.foldl putL l)
  | [], _, h => h
  | m :: ms, l, h => foldl_fall ms (putL l m) (fall_putL h)
theorem fall_accL (ms : List Mo) : Fall (accL ms) := foldl_fall ms [] List.Pairwise.nil
theorem fall_sumL (ms : List Mo) : Fall (sumL ms) := (fall_accL ms).filter _
theorem nz_sumL {ms : List Mo} {m : Mo} (h : m ∈ sumL ms) : m.n ≠ 0 := by simpa [nz] using (List.mem_filter.1 h).2
/-- All of ms are small, and there are few of them: so is what is put together. -/
theorem foldl_wf {C : Int} (hC : 0 ≤ C) : ∀ (ms l : List Mo) (k : Nat), C * (k + ms.length : Nat) ≤ 4611686018427387904 → (∀ x ∈ l, x.wf ∧ -(C * k) ≤ x.n ∧ x.n ≤ C * k) → (∀ m ∈ ms, m.wf ∧ -C ≤ m.n ∧ m.n ≤ C) →
    ∀ x ∈ ms.foldl putL l, x.wf ∧ -(C * (k + ms.length : Nat)) ≤ x.n ∧ x.n ≤ C * (k + ms.length : Nat)
  | [], l, k, _, h, _ => by simpa using h
  | m :: ms, l, k, hb, h, hm => by
    have hp : 0 ≤ C * (k : Int) := Int.mul_nonneg hC (by omega)
    have hstep : C * ((k + 1 : Nat) : Int) = C * k + C := by rw [show ((k + 1 : Nat) : Int) = (k : Int) + 1 from by omega, Int.mul_add, Int.mul_one]
    have hle : C * ((k + 1 : Nat) : Int) ≤ C * ((k + (m :: ms).length : Nat) : Int) := Int.mul_le_mul_of_nonneg_left (by simp only [List.length_cons]; omega) hC
    have h1 := wf_putL (B := C * k) (C := C) (by omega) hC hp h (hm m (by simp))
    rw [← hstep] at h1
    have h2 := foldl_wf hC ms (putL l m) (k + 1) (by rw [show k + 1 + ms.length = k + (m :: ms).length from by simp; omega]; exact hb) h1 (fun x hx => hm x (by simp [hx]))
    rw [show k + 1 + ms.length = k + (m :: ms).length from by simp; omega] at h2
    exact h2
theorem wf_accL {C : Int} (hC : 0 ≤ C) {ms : List Mo} (hb : C * (ms.length : Nat) ≤ 4611686018427387904) (hm : ∀ m ∈ ms, m.wf ∧ -C ≤ m.n ∧ m.n ≤ C) : ∀ x ∈ accL ms, x.wf ∧ -(C * (ms.length : Nat)) ≤ x.n ∧ x.n ≤ C * (ms.length : Nat) := by
  have := foldl_wf hC ms [] 0 (by simpa using hb) (by simp) hm
  unfold accL
  simpa using this
theorem length_accL (ms : List Mo) : (accL ms).length ≤ ms.length := by
  have : ∀ (ms l : List Mo), (ms.foldl putL l).length ≤ l.length + ms.length := by
    intro ms
    induction ms with
    | nil => intro l; simp
    | cons m ms ih => intro l; have := ih (putL l m); have := length_putL l m; simp only [List.foldl_cons, List.length_cons]; omega
  have := this ms []; simpa [accL] using this

/-! ### one list for one function -/
theorem coef_zero {l : List Mo} {c : Int} (h : ∀ x ∈ l, x.code < c) : coef l c = 0 := by
  induction l with
  | nil => rfl
  | cons a t ih => rw [coef_cons, ih (fun x hx => h x (by simp [hx])), if_neg (by have := h a (by simp); omega)]; rfl
theorem canon : ∀ {l r : List Mo}, Fall l → Fall r → (∀ x ∈ l, x.wf ∧ x.n ≠ 0) → (∀ x ∈ r, x.wf ∧ x.n ≠ 0) → (∀ c, coef l c = coef r c) → l = r
  | [], [], _, _, _, _, _ => rfl
  | [], b :: t, _, hr, _, h2, h => by
    have := h b.code
    rw [coef_cons, if_pos rfl, coef_zero (List.pairwise_cons.1 hr).1] at this
    exact absurd (by simpa [coef, lin] using this.symm) (h2 b (by simp)).2
  | a :: s, [], hl, _, h1, _, h => by
    have := h a.code
    rw [coef_cons, if_pos rfl, coef_zero (List.pairwise_cons.1 hl).1] at this
    exact absurd (by simpa [coef, lin] using this) (h1 a (by simp)).2
  | a :: s, b :: t, hl, hr, h1, h2, h => by
    obtain ⟨l1, l2⟩ := List.pairwise_cons.1 hl
    obtain ⟨r1, r2⟩ := List.pairwise_cons.1 hr
    have ha := h1 a (by simp)
    have hb := h2 b (by simp)
    have hc : a.code = b.code := by
      rcases Int.lt_trichotomy a.code b.code with hlt | he | hlt
      · have := h b.code
        rw [coef_cons, coef_cons, if_neg (by omega), if_pos rfl, coef_zero r1, coef_zero (fun x hx => by have := l1 x hx; omega)] at this
        exact absurd (by simpa using this.symm) hb.2
      · exact he
      · have := h a.code
        rw [coef_cons, coef_cons, if_pos rfl, if_neg (by omega), coef_zero l1, coef_zero (fun x hx => by have := r1 x hx; omega)] at this
        exact absurd (by simpa using this) ha.2
    have hn : a.n = b.n := by
      have := h a.code
      rw [coef_cons, coef_cons, if_pos rfl, if_pos hc.symm, coef_zero l1, hc, coef_zero r1] at this
      simpa using this
    have hab := Mo.eq_of ha.1 hb.1 hc hn
    subst hab
    have ht := canon l2 r2 (fun x hx => h1 x (by simp [hx])) (fun x hx => h2 x (by simp [hx])) (fun c => by
      have := h c
      rw [coef_cons, coef_cons] at this
      omega)
    rw [ht]

/-! ### polynomials -/
def fitsB (n : Int) : Bool := decide (-16777216 ≤ n) && decide (n ≤ 16777216)
def goodB (m : Mo) : Bool := m.n != 0 && fitsB m.n && decide (m.deg ≤ 8)
def nth (l : List Mo) (k : Nat) : Mo := l.getD k default
def okAt (l : List Mo) (k : Nat) : Bool := goodB (nth l k) && (decide (k = 0) || decide ((nth l k).code < (nth l (k - 1)).code))
def rightB (l : List Mo) : Bool := decide (l.length ≤ 48) && (List.range l.length).all (okAt l)
theorem nth_cons_succ (a : Mo) (l : List Mo) (k : Nat) : nth (a :: l) (k + 1) = nth l k := by simp [nth]
theorem nth_mem {l : List Mo} {k : Nat} (h : k < l.length) : nth l k ∈ l := by
  unfold nth; rw [List.getD_eq_getElem?_getD, List.getElem?_eq_getElem h]; exact List.getElem_mem h
theorem mem_nth {l : List Mo} {m : Mo} (h : m ∈ l) : ∃ k, k < l.length ∧ nth l k = m := by
  obtain ⟨k, hk, e⟩ := List.getElem_of_mem h
  exact ⟨k, hk, by unfold nth; rw [List.getD_eq_getElem?_getD, List.getElem?_eq_getElem hk]; exact e⟩
theorem good_iff (m : Mo) : goodB m = true ↔ m.n ≠ 0 ∧ (-16777216 ≤ m.n ∧ m.n ≤ 16777216) ∧ m.deg ≤ 8 := by
  simp [goodB, fitsB, and_assoc]
theorem fall_of : ∀ {l : List Mo}, (∀ k, k + 1 < l.length → (nth l (k + 1)).code < (nth l k).code) → Fall l
  | [], _ => List.Pairwise.nil
  | [a], _ => by simp [Fall]
  | a :: b :: t, h => by
    have ih : Fall (b :: t) := fall_of fun k hk => by have := h (k + 1) (by simpa using hk); simpa [nth_cons_succ] using this
    have hab : b.code < a.code := by have := h 0 (by simp); simpa [nth] using this
    refine List.pairwise_cons.2 ⟨fun x hx => ?_, ih⟩
    rcases List.mem_cons.1 hx with rfl | hx
    · exact hab
    · have := (List.pairwise_cons.1 ih).1 x hx; omega
theorem fall_nth : ∀ {l : List Mo}, Fall l → ∀ i j, i < j → j < l.length → (nth l j).code < (nth l i).code
  | [], _, _, _, _, h => by simp at h
  | a :: t, h, i, j, hij, hj => by
    obtain ⟨h1, h2⟩ := List.pairwise_cons.1 h
    cases j with
    | zero => omega
    | succ j =>
      have hj' : j < t.length := by simpa using hj
      cases i with
      | zero => rw [nth_cons_succ]; exact h1 _ (nth_mem hj')
      | succ i => rw [nth_cons_succ, nth_cons_succ]; exact fall_nth h2 i j (by omega) hj'
theorem right_iff (l : List Mo) : rightB l = true ↔ l.length ≤ 48 ∧ Fall l ∧ ∀ m ∈ l, m.n ≠ 0 ∧ (-16777216 ≤ m.n ∧ m.n ≤ 16777216) ∧ m.deg ≤ 8 := by
  unfold rightB
  rw [Bool.and_eq_true, decide_eq_true_eq, List.all_eq_true]
  refine and_congr_right fun _ => ⟨fun h => ⟨fall_of fun k hk => ?_, fun m hm => ?_⟩, fun h k hk => ?_⟩
  · have := h (k + 1) (List.mem_range.2 hk)
    simp [okAt] at this
    exact this.2
  · obtain ⟨k, hk, rfl⟩ := mem_nth hm
    have := h k (List.mem_range.2 hk)
    simp only [okAt, Bool.and_eq_true] at this
    exact (good_iff _).1 this.1
  · have hk := List.mem_range.1 hk
    simp only [okAt, Bool.and_eq_true, Bool.or_eq_true, decide_eq_true_eq]
    refine ⟨(good_iff _).2 (h.2 _ (nth_mem hk)), ?_⟩
    rcases Nat.eq_zero_or_pos k with h0 | h0
    · exact .inl h0
    · exact .inr (fall_nth h.1 (k - 1) k (by omega) hk)
theorem right_all {l : List Mo} (h48 : l.length ≤ 48) (h : ∀ k, k < l.length → okAt l k = true) : rightB l = true := by
  unfold rightB; rw [Bool.and_eq_true, decide_eq_true_eq, List.all_eq_true]; exact ⟨h48, fun k hk => h k (List.mem_range.1 hk)⟩
theorem right_not {l : List Mo} {k : Nat} (hk : k < l.length) (h : okAt l k = false) : rightB l = false := by
  rw [← Bool.not_eq_true]; unfold rightB; rw [Bool.and_eq_true, List.all_eq_true]
  intro hh; have := hh.2 k (List.mem_range.2 hk); rw [h] at this; cases this
theorem right_long {l : List Mo} (h : ¬ l.length ≤ 48) : rightB l = false := by
  rw [← Bool.not_eq_true]; unfold rightB; rw [Bool.and_eq_true, decide_eq_true_eq]; exact fun hh => h hh.1

def polyOf (ms : List Mo) : List Mo × Int := if rightB (sumL ms) = true then (sumL ms, 0) else ([], 21)
def Mo.times (t : Int) (m : Mo) : Mo := { m with n := t * m.n }
def Mo.mul (a b : Mo) : Mo := ⟨a.n * b.n, a.e0 + b.e0, a.e1 + b.e1, a.e2 + b.e2, a.e3 + b.e3, a.e4 + b.e4, a.e5 + b.e5⟩
def prods (p q : List Mo) : List Mo := p.flatMap fun a => q.map fun b => a.mul b
def addR (t : Int) (p q : List Mo) : List Mo × Int := if rightB p = true ∧ rightB q = true then polyOf (p ++ q.map (Mo.times t)) else ([], 20)
def mulR (p q : List Mo) : List Mo × Int := if rightB p = true ∧ rightB q = true then polyOf (prods p q) else ([], 20)

theorem code_mul (a b : Mo) : (a.mul b).code = a.code + b.code := by simp only [Mo.code, Mo.mul]; omega
theorem code_times (t : Int) (a : Mo) : (a.times t).code = a.code := rfl
theorem lin_times (f : Int → Int) (t : Int) (l : List Mo) : lin f (l.map (Mo.times t)) = t * lin f l := by
  induction l with
  | nil => simp [lin]
  | cons a l ih => simp only [List.map_cons, lin, ih, code_times, Int.mul_add]; simp only [Mo.times, Int.mul_assoc]
theorem lin_map_mul (f : Int → Int) (a : Mo) (q : List Mo) : lin f (q.map fun b => a.mul b) = a.n * lin (fun k => f (a.code + k)) q := by
  induction q with
  | nil => simp [lin]
  | cons b q ih => simp only [List.map_cons, lin, ih, code_mul, Int.mul_add]; simp only [Mo.mul, Int.mul_assoc]
theorem lin_prods (f : Int → Int) (p q : List Mo) : lin f (prods p q) = lin (fun j => lin (fun k => f (j + k)) q) p := by
  induction p with
  | nil => rfl
  | cons a p ih => simp only [prods, List.flatMap_cons, lin_append, lin] at ih ⊢; rw [ih, lin_map_mul]
theorem lin_congr {f g : Int → Int} (h : ∀ k, f k = g k) (l : List Mo) : lin f l = lin g l := by rw [funext h]
theorem lin_add_fun (f g : Int → Int) (l : List Mo) : lin (fun k => f k + g k) l = lin f l + lin g l := by
  induction l with
  | nil => rfl
  | cons a l ih => simp only [lin, ih, Int.mul_add]; omega
theorem lin_mul_fun (t : Int) (f : Int → Int) (l : List Mo) : lin (fun k => t * f k) l = t * lin f l := by
  induction l with
  | nil => simp [lin]
  | cons a l ih => simp only [lin, ih, Int.mul_add]; rw [Int.mul_left_comm]
theorem lin_zero_fun (l : List Mo) : lin (fun _ => 0) l = 0 := by
  induction l with
  | nil => rfl
  | cons a l ih => simp [lin, ih]
theorem lin_swap (f : Int → Int → Int) (p q : List Mo) : lin (fun j => lin (fun k => f j k) q) p = lin (fun k => lin (fun j => f j k) p) q := by
  induction p with
  | nil => simp [lin, lin_zero_fun]
  | cons a p ih => simp only [lin]; rw [ih, lin_add_fun, lin_mul_fun]
theorem lin_prods_comm (f : Int → Int) (p q : List Mo) : lin f (prods p q) = lin f (prods q p) := by
  rw [lin_prods, lin_prods, lin_swap]; exact lin_congr (fun k => lin_congr (fun j => by rw [Int.add_comm]) p) q
end Go.Proofs.Ytogflbpphacokaa
