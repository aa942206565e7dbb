/- What the law of growing asks: own rows of numbers; values that grow. -/
import Derived.Test.YtogflbpphacokaaPolyLC
namespace Go.Proofs.Ytogflbpphacokaa
open Go.RowKit

theorem grows_is (A : Option Addr) (l : List Mo) (c : Nat) (v : Bool) (w : World) (h : Rd w w.heap.size A l) (hl : l.length ≤ maxLen) (hr : growsB l = v) : Calls Try.prog 14 #[.slice A l.length c] w fun e w' => e = .returned (.bool v) ∧ Gr w w' := by
  rw [← hr]; exact grows_any A l c w h hl
theorem covers_is (A : Option Addr) (l : List Mo) (c : Nat) (n : Int) (v : Bool) (w : World) (h : Rd w w.heap.size A l) (hl : l.length ≤ maxLen) (hr : coversB l n = v) : Calls Try.prog 15 #[.slice A l.length c, .int .i64 n] w fun e w' => e = .returned (.bool v) ∧ Gr w w' := by
  rw [← hr]; exact covers_any A l c n w h hl
theorem mon_mono {D E : Nat → Nat} (h : ∀ k, D k ≤ E k) (m : Mo) : mon D m ≤ mon E m := by
  have step : ∀ k, monTo D m k ≤ monTo E m k := fun k => by
    induction k with
    | zero => exact Nat.le_refl _
    | succ k ih => exact Nat.mul_le_mul ih (Nat.pow_le_pow_left (h k) _)
  exact step 6
theorem valM_mono {D E : Nat → Nat} (h : ∀ k, D k ≤ E k) {m : Mo} (hn : 0 ≤ m.n) : valM D m ≤ valM E m := by
  unfold valM
  exact Int.mul_le_mul_of_nonneg_left (Int.ofNat_le.2 (mon_mono h m)) hn
theorem val_mono {D E : Nat → Nat} (h : ∀ k, D k ≤ E k) : ∀ {l : List Mo}, (∀ m ∈ l, 0 ≤ m.n) → val D l ≤ val E l
  | [], _ => Int.le_refl _
  | a :: l, hn => by
    simp only [val]
    exact Int.add_le_add (valM_mono h (hn a (List.mem_cons_self ..))) (val_mono h (fun x hx => hn x (List.mem_cons_of_mem _ hx)))
theorem val_pos (D : Nat → Nat) : ∀ {l : List Mo}, (∀ m ∈ l, 0 ≤ m.n) → 0 ≤ val D l
  | [], _ => Int.le_refl _
  | a :: l, hn => by
    simp only [val]
    exact Int.add_nonneg (Int.mul_nonneg (hn a (List.mem_cons_self ..)) (Int.natCast_nonneg _)) (val_pos D (fun x hx => hn x (List.mem_cons_of_mem _ hx)))
theorem grows_n {l : List Mo} (h : growsB l = true) : ∀ m ∈ l, 0 ≤ m.n := fun m hm => by
  unfold growsB at h
  rw [Bool.and_eq_true, List.all_eq_true] at h
  simpa using h.2 m hm
theorem mon_one (D : Nat → Nat) {m : Mo} (h : m.wf) (hd : m.deg = 0) : mon D m = 1 := by
  obtain ⟨h0, h1, h2, h3, h4, h5⟩ := Mo.es h
  unfold Mo.deg at hd
  have e0 : m.e0 = 0 := by omega
  have e1 : m.e1 = 0 := by omega
  have e2 : m.e2 = 0 := by omega
  have e3 : m.e3 = 0 := by omega
  have e4 : m.e4 = 0 := by omega
  have e5 : m.e5 = 0 := by omega
  simp [mon, monTo, Mo.e, e0, e1, e2, e3, e4, e5]
theorem covers_val (D : Nat → Nat) {l : List Mo} {n : Int} (hw : ∀ m ∈ l, m.wf) (h : coversB l n = true) : n ≤ val D l := by
  have hg : growsB l = true := by
    cases hg : growsB l with
    | true => rfl
    | false => rw [covers_no hg] at h; cases h
  by_cases hn : n ≤ 0
  · exact Int.le_trans hn (val_pos D (grows_n hg))
  · have h2 : 0 < l.length ∧ (nth l (l.length - 1)).deg = 0 ∧ n ≤ (nth l (l.length - 1)).n := by
      unfold coversB at h
      rw [hg] at h
      simpa [hn, and_assoc] using h
    obtain ⟨hl, hd, hb⟩ := h2
    have e := nth_take_snoc (l := l) (k := l.length - 1) (by omega)
    rw [show l.length - 1 + 1 = l.length from by omega, List.take_length] at e
    have hlast : valM D (nth l (l.length - 1)) = (nth l (l.length - 1)).n := by
      unfold valM; rw [mon_one D (hw _ (nth_mem (by omega))) hd]; simp
    have hinit := val_pos D (l := l.take (l.length - 1)) (fun m hm => grows_n hg m (List.mem_of_mem_take hm))
    have : val D l = val D (l.take (l.length - 1)) + valM D (nth l (l.length - 1)) := by
      conv => lhs; rw [e]
      rw [val_append]; simp [val]
    omega

-- rows of numbers
def OwnI (w : World) (base g : Nat) (l : List Int) : Prop := w.ownsRow base 2 1 (.slice (some ⟨g, 0, none⟩) l.length l.length) l.length (l.map fun x => Value.int .i64 x)
theorem OwnI.cell {w : World} {base g : Nat} {l : List Int} (h : OwnI w base g l) {k : Nat} (hk : k < l.length) : w.cell? ⟨g, k, none⟩ = some (.int .i64 (ith l k)) := by
  rw [World.ownsRow.cellAt h k (by omega)]
  unfold ith
  rw [List.getElem?_map, List.getD_eq_getElem?_getD, List.getElem?_eq_getElem hk]
  rfl
theorem OwnI.set {w : World} {base g : Nat} {l : List Int} (h : OwnI w base g l) (k : Nat) (x : Int) : OwnI (w.setCell ⟨g, k, none⟩ (.int .i64 x)) base g (l.set k x) := by
  unfold OwnI at *
  rw [List.length_set, List.map_set]
  exact (h.stored _ _).1
theorem OwnI.lt {w : World} {base g : Nat} {l : List Int} (h : OwnI w base g l) : base ≤ g ∧ g < w.heap.size := World.ownsRow.lt h g rfl
theorem OwnI.gr {w w' : World} {base g : Nat} {l : List Int} (h : OwnI w base g l) (hb : Below w.heap.size w w') : OwnI w' base g l := by
  have hlt := h.lt.2
  obtain ⟨h0, h1 | ⟨g', cap, cur, e, hg, hh, h2⟩⟩ := h
  · exact ⟨h0, .inl h1⟩
  · refine ⟨h0, .inr ⟨g', cap, cur, e, hg, ?_, h2⟩⟩
    injection e with e1 _ _
    injection e1 with e1
    injection e1 with e1 _ _
    subst e1
    rw [hb.block g hlt]
    exact hh
theorem OwnI.rdi {w : World} {base g : Nat} {l : List Int} (h : OwnI w base g l) (hb : ∀ d ∈ l, -9223372036854775808 ≤ d ∧ d ≤ 9223372036854775807) : RdI w w.heap.size (some ⟨g, 0, none⟩) l :=
  ⟨hb, fun _ => ⟨g, 0, rfl, h.lt.2, fun i hi => by rw [Nat.zero_add]; exact h.cell hi⟩⟩
theorem OwnI.new (w : World) (n : Nat) (hn : n ≤ 6) : OwnI (w.alloc (.cells (List.replicate n (Value.int .i64 0)).toArray 2)) w.heap.size w.heap.size (List.replicate n 0) := by
  unfold OwnI
  rw [List.length_replicate, List.map_replicate]
  exact World.ownsRow_lit w _ n (Nat.le_refl _) (by unfold maxLen; omega) (by simp)
theorem make0 (w : World) : (Instr.makeSlice 33 (.int .i64 0) (.int .i64 0)).run Try.prog w = .ok (.slice (some ⟨w.heap.size, 0, none⟩) 0 0) (w.alloc (.cells #[] 2)) := by kernel_rfl
theorem make1 (w : World) : (Instr.makeSlice 33 (.int .i64 1) (.int .i64 1)).run Try.prog w = .ok (.slice (some ⟨w.heap.size, 0, none⟩) 1 1) (w.alloc (.cells #[Value.int .i64 0] 2)) := by kernel_rfl
theorem make2 (w : World) : (Instr.makeSlice 33 (.int .i64 2) (.int .i64 2)).run Try.prog w = .ok (.slice (some ⟨w.heap.size, 0, none⟩) 2 2) (w.alloc (.cells #[Value.int .i64 0, Value.int .i64 0] 2)) := by kernel_rfl
theorem make3 (w : World) : (Instr.makeSlice 33 (.int .i64 3) (.int .i64 3)).run Try.prog w = .ok (.slice (some ⟨w.heap.size, 0, none⟩) 3 3) (w.alloc (.cells #[Value.int .i64 0, Value.int .i64 0, Value.int .i64 0] 2)) := by kernel_rfl
theorem make4 (w : World) : (Instr.makeSlice 33 (.int .i64 4) (.int .i64 4)).run Try.prog w = .ok (.slice (some ⟨w.heap.size, 0, none⟩) 4 4) (w.alloc (.cells #[Value.int .i64 0, Value.int .i64 0, Value.int .i64 0, Value.int .i64 0] 2)) := by kernel_rfl
theorem make5 (w : World) : (Instr.makeSlice 33 (.int .i64 5) (.int .i64 5)).run Try.prog w = .ok (.slice (some ⟨w.heap.size, 0, none⟩) 5 5) (w.alloc (.cells #[Value.int .i64 0, Value.int .i64 0, Value.int .i64 0, Value.int .i64 0, Value.int .i64 0] 2)) := by kernel_rfl
theorem make6 (w : World) : (Instr.makeSlice 33 (.int .i64 6) (.int .i64 6)).run Try.prog w = .ok (.slice (some ⟨w.heap.size, 0, none⟩) 6 6) (w.alloc (.cells #[Value.int .i64 0, Value.int .i64 0, Value.int .i64 0, Value.int .i64 0, Value.int .i64 0, Value.int .i64 0] 2)) := by kernel_rfl
theorem make_nums (n : Nat) (hn : n ≤ 6) (w : World) : (Instr.makeSlice 33 (.int .i64 (n : Int)) (.int .i64 (n : Int))).run Try.prog w = .ok (.slice (some ⟨w.heap.size, 0, none⟩) n n) (w.alloc (.cells (List.replicate n (Value.int .i64 0)).toArray 2)) := by
  match n, hn with
  | 0, _ => exact make0 w
  | 1, _ => exact make1 w
  | 2, _ => exact make2 w
  | 3, _ => exact make3 w
  | 4, _ => exact make4 w
  | 5, _ => exact make5 w
  | 6, _ => exact make6 w
theorem idxN (b o len c : Nat) (i : Int) (h0 : 0 ≤ i) (h1 : i < len) (w : World) : (Instr.indexAt 33 (.slice (some ⟨b, o, none⟩) len c) (.int .i64 i)).run Try.prog w = .ok (.pointer (some ⟨b, o + i.toNat, none⟩)) w := by
  have e := WideShapes.add_plain b o (i.toNat)
  go_simp
theorem ith_set {l : List Int} {k : Nat} (hk : k < l.length) (x : Int) (j : Nat) : ith (l.set k x) j = if j = k then x else ith l j := by
  unfold ith
  rw [List.getD_eq_getElem?_getD, List.getD_eq_getElem?_getD, List.getElem?_set]
  by_cases h : k = j
  · subst h; simp [hk]
  · rw [if_neg h, if_neg (fun e => h e.symm)]
def upv (ds ms : List Int) (k : Nat) : Int := if k < ms.length ∧ ith ds k < ith ms k then ith ms k else ith ds k
theorem upv_le (ds ms : List Int) (k : Nat) : ith ds k ≤ upv ds ms k := by unfold upv; split <;> omega
theorem upv_yes {ds ms : List Int} {k : Nat} (h : k < ms.length) (h2 : ith ds k < ith ms k) : upv ds ms k = ith ms k := if_pos ⟨h, h2⟩
theorem upv_no {ds ms : List Int} {k : Nat} (h : ¬ (k < ms.length ∧ ith ds k < ith ms k)) : upv ds ms k = ith ds k := if_neg h
theorem dv_le {ds ms us : List Int} (h : ∀ j, j < ds.length → ith us j = upv ds ms j) (k : Nat) : DV ds k ≤ DV us k := by
  unfold DV
  by_cases hk : k < ds.length
  · rw [h k hk]; have := upv_le ds ms k; omega
  · have e1 : ith ds k = 0 := by unfold ith; rw [List.getD_eq_getElem?_getD, List.getElem?_eq_none (by omega)]; rfl
    rw [e1]; exact Nat.zero_le _
def UpTo (ds ms : List Int) (k : Nat) (us : List Int) : Prop := us.length = ds.length ∧ (∀ j, j < k → ith us j = upv ds ms j) ∧ ∀ d ∈ us, -9223372036854775808 ≤ d ∧ d ≤ 9223372036854775807
theorem UpTo.start (ds ms : List Int) : UpTo ds ms 0 (List.replicate ds.length 0) := ⟨by simp, fun j hj => by omega, fun d hd => by
  obtain ⟨_, rfl⟩ := List.mem_replicate.1 hd
  omega⟩
theorem UpTo.step {ds ms us : List Int} {k : Nat} (h : UpTo ds ms k us) (hk : k < ds.length) {x : Int} (hx : x = upv ds ms k) (hb : -9223372036854775808 ≤ x ∧ x ≤ 9223372036854775807) : UpTo ds ms (k + 1) (us.set k x) := by
  refine ⟨by rw [List.length_set]; exact h.1, fun j hj => ?_, fun d hd => ?_⟩
  · rw [ith_set (by rw [h.1]; exact hk)]
    split
    · rename_i e; rw [e]; exact hx
    · exact h.2.1 j (by omega)
  · rcases List.mem_or_eq_of_mem_set hd with h1 | rfl
    · exact h.2.2 d h1
    · exact hb
theorem ith_bd {ds : List Int} (h : ∀ d ∈ ds, -9223372036854775808 ≤ d ∧ d ≤ 9223372036854775807) {k : Nat} (hk : k < ds.length) : -9223372036854775808 ≤ ith ds k ∧ ith ds k ≤ 9223372036854775807 := h _ (getD_mem hk)
end Go.Proofs.Ytogflbpphacokaa
