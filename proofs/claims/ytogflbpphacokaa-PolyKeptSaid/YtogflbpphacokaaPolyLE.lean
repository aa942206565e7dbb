/- What the law of what is kept asks: copies by append, rows whose numbers are turned. -/
import Derived.Test.YtogflbpphacokaaPolyLC
namespace Go.Proofs.Ytogflbpphacokaa
open Go.RowKit

theorem append_none {w : World} {base : Nat} {e : TypeId} {i : TypeInfo} {size : Nat} (t ty : TypeId) (ht : Try.prog.underlying t = some (.slice e)) (hi : Try.prog.info? e = some i)
    (v : Value) (n c : Nat) (xs : List Value) (hown : w.ownsRow base e size v n xs) :
    (Builtin.append_ #[t, t] ty #[v, .slice none 0 c]).run Try.prog w = .ok v w := by
  rcases hown.2 with ⟨rfl, rfl⟩ | ⟨g, cap, cur, rfl, _, _, hnc, _⟩
  · simp [Builtin.append_, run_underlying ht, sizeOf, typeInfo, hi, Builtin.lenOf, Builtin.firstCells]
  · simp [Builtin.append_, run_underlying ht, sizeOf, typeInfo, hi, Builtin.lenOf, Builtin.firstCells, hnc, storeCells]
theorem cells_mem {l : List Mo} : ∀ u ∈ l.flatMap Mo.cells, u.oneCell' = true := by
  intro u hu
  obtain ⟨m, _, hm⟩ := List.mem_flatMap.1 hu
  exact oneCells m u hm
theorem rd_cells {w : World} {B : Nat} {ad : Addr} {l : List Mo} (h : Rd w B (some ad) l) : ∀ (j : Nat) (u : Value), (l.flatMap Mo.cells)[j]? = some u → w.cell? (ad.add j) = some u := by
  intro j u hj
  have hlt : j < l.length * 7 := by
    rcases Nat.lt_or_ge j (l.length * 7) with h1 | h1
    · exact h1
    · rw [List.getElem?_eq_none (by rw [flat_len]; exact h1)] at hj; cases hj
  obtain ⟨b, o, e, _, hc⟩ := h.2 (by omega)
  injection e with e
  subst e
  rw [WideShapes.add_plain]
  have e2 : j = j / 7 * 7 + j % 7 := by omega
  have h1 := flat_get l (j / 7) (j % 7) (by omega) (by omega)
  rw [← e2, hj] at h1
  have h2 := hc (j / 7) (j % 7) (by omega) (by omega)
  rw [Nat.add_assoc, ← e2] at h2
  rw [h2, h1]
theorem append_rd {w : World} {ops : Array Oper} {rest : List Oper} {o : Oper} {a : Act} {Q : Exit → Act → World → Prop} (hgd : o.guard = none) (s x : Operand)
    (ho : o.op = .call { callee := .builtin .append, args := #[s, x], argTypes := #[22, 22] }) (base : Nat) (v : Value) (hs : a.eval s = v) (hown : Own w base v [])
    (A : Option Addr) (l : List Mo) (c : Nat) (hx : a.eval x = .slice A l.length c) (hr : Rd w w.heap.size A l) (hl : l.length ≤ 48) (hb : base ≤ w.heap.size)
    (h : ∀ A' c' w', Own w' base (.slice A' l.length c') l → w.grownBy w' v.ownBlock → wpList Try.prog ops Q rest (a.put o.dst (.slice A' l.length c')) w') :
    wpList Try.prog ops Q (o :: rest) a w := by
  obtain ⟨i0, hi, hz0, hz1, hz2⟩ := info_parts info44
  cases A with
  | some ad =>
    refine wpList_append_own _ hgd s x _ ho base 44 i0 _ 7 16 Try.underlying22 hi hz0 hz1 hz2 rfl (by omega) v 0 [] hs hown ad l.length c (l.flatMap Mo.cells) hx (flat_len l) (rd_cells hr) cells_mem (by unfold maxLen; omega) (by omega) hb ?_
    intro v' w' h1 h2 _
    rw [Nat.zero_add, List.nil_append] at h1
    obtain ⟨A', c', rfl⟩ := Own.shape (l := l) h1
    exact h A' c' w' h1 h2
  | none =>
    have h0 : l = [] := by
      cases l with
      | nil => rfl
      | cons m t =>
        obtain ⟨b, o', e, _⟩ := hr.2 (by simp)
        cases e
    subst h0
    refine wpList_plain hgd fun K hK => ?_
    have hrun := append_none (w := w) (base := base) (size := 7) 22 o.type Try.underlying22 hi v 0 c [] hown
    unfold Oper.wp execOp
    simp only [ho, resolve, invoke, builtin, Sem.run_bind, Sem.run_pure, Result.andThen_ok, List.map_toArray, List.map_cons, List.map_nil, hs, hx, List.length_nil, hrun]
    obtain ⟨A', c', rfl⟩ := Own.shape hown
    exact hK _ _ (h A' c' w hown ⟨rfl, rfl, rfl, Nat.le_refl _, fun _ _ _ => rfl⟩)

/-- The first k numbers are v; all else stays. -/
def Mk (v : Int) (l : List Mo) (k : Nat) (L : List Mo) : Prop := L.length = l.length ∧ ∀ j, j < l.length → nth L j = if j < k then { nth l j with n := v } else nth l j
theorem Mk.start (v : Int) (l : List Mo) : Mk v l 0 l := ⟨rfl, fun j _ => by simp⟩
theorem nth_set {l : List Mo} {k : Nat} (hk : k < l.length) (m : Mo) (j : Nat) : nth (l.set k m) j = if j = k then m else nth l j := by
  unfold nth
  rw [List.getD_eq_getElem?_getD, List.getD_eq_getElem?_getD, List.getElem?_set]
  by_cases h : k = j
  · subst h; simp [hk]
  · rw [if_neg h, if_neg (fun e => h e.symm)]
theorem Mk.step {v : Int} {l L : List Mo} {k : Nat} (h : Mk v l k L) (hk : k < l.length) : Mk v l (k + 1) (L.set k { nth L k with n := v }) := by
  refine ⟨by rw [List.length_set]; exact h.1, fun j hj => ?_⟩
  rw [nth_set (by rw [h.1]; exact hk)]
  by_cases e : j = k
  · subst e
    rw [if_pos rfl, if_pos (Nat.lt_succ_self _), h.2 j hj, if_neg (Nat.lt_irrefl _)]
  · rw [if_neg e, h.2 j hj]
    by_cases h1 : j < k
    · rw [if_pos h1, if_pos (by omega)]
    · rw [if_neg h1, if_neg (by omega)]
theorem Mk.done {v : Int} {l L : List Mo} (h : Mk v l l.length L) {j : Nat} (hj : j < l.length) : nth L j = { nth l j with n := v } := by rw [h.2 j hj, if_pos hj]
theorem neq42 (x y : Mo) (w : World) : (binOp .neq 42 (.agg #[.int .u8 x.e0, .int .u8 x.e1, .int .u8 x.e2, .int .u8 x.e3, .int .u8 x.e4, .int .u8 x.e5]) (.agg #[.int .u8 y.e0, .int .u8 y.e1, .int .u8 y.e2, .int .u8 y.e3, .int .u8 y.e4, .int .u8 y.e5])).run Try.prog w = .ok (.bool (!decide (x.e0 = y.e0 ∧ x.e1 = y.e1 ∧ x.e2 = y.e2 ∧ x.e3 = y.e3 ∧ x.e4 = y.e4 ∧ x.e5 = y.e5))) w := by
  have h := eq42 x y 9998 w
  rw [show 9998 + 2 = 10000 from rfl] at h
  generalize decide (x.e0 = y.e0 ∧ x.e1 = y.e1 ∧ x.e2 = y.e2 ∧ x.e3 = y.e3 ∧ x.e4 = y.e4 ∧ x.e5 = y.e5) = b at h ⊢
  go_simp
theorem Own.mark {w : World} {base g n c k : Nat} {L : List Mo} (v : Int) (h : Own w base (.slice (some ⟨g, 0, none⟩) n c) L) (hn : L.length = n) (hk : k < n) : Own (w.setCell ⟨g, k * 7, none⟩ (.int .i64 v)) base (.slice (some ⟨g, 0, none⟩) n c) (L.set k { nth L k with n := v }) := by
  subst hn
  have h1 := h.set1 hk v
  rwa [List.length_set] at h1
theorem grown_empty {w W : World} {o : Obj} (hg : (w.alloc o).grownBy W (some w.heap.size)) : Below w.heap.size w W :=
  ((Gr.refl w).alloc o).below.grown hg (by simp) (fun j hj => by injection hj with hj; omega)
end Go.Proofs.Ytogflbpphacokaa
