/- What the law of notes uses: bytes that a conversion made, and appends behind them. -/
import Derived.ArgAppend
import Derived.Laws.IdiomStrings
import Derived.Test.YtphcjpomneejmaaDoorLexBk
namespace Go.Proofs.YtphcjpomneejmaaDoor
open Go.RowKit
/-- A row of bytes in a block from base on, its spare cells free. -/
def RowN (w : World) (base g n cap : Nat) (bl : List UInt8) : Prop :=
  base ≤ g ∧ n = bl.length ∧ n ≤ cap ∧ cap ≤ maxLen ∧ g < w.heap.size ∧ (∀ j, j < n → w.cell? ⟨g, j, none⟩ = some (.int .u8 (bl.getD j 0).toNat)) ∧ ∀ j, j < cap → (w.cell? ⟨g, j, none⟩).isSome = true ∧ w.frozen? ⟨g, j, none⟩ = false
theorem RowN.below {w w' : World} {base g n cap : Nat} {bl : List UInt8} (h : RowN w base g n cap bl) (hb : Below w.heap.size w w') : RowN w' base g n cap bl := by
  obtain ⟨h1, h2, h3, h4, h5, h6, h7⟩ := h
  have e : ∀ j, w'.cell? ⟨g, j, none⟩ = w.cell? ⟨g, j, none⟩ := fun j => hb.cell (p := ⟨g, j, none⟩) h5
  have f : ∀ j, w'.frozen? ⟨g, j, none⟩ = w.frozen? ⟨g, j, none⟩ := fun j => hb.frozen (p := ⟨g, j, none⟩) h5
  exact ⟨h1, h2, h3, h4, Nat.lt_of_lt_of_le h5 hb.size, fun j hj => by rw [e]; exact h6 j hj, fun j hj => by rw [e, f]; exact h7 j hj⟩
theorem RowN.made (w : World) (s : ByteArray) (hs : s.size ≤ maxLen) : RowN (w.drew.alloc (.cells (bytesRow s (grownCap w s.size 0 5)) 5 ((bytesRow s (grownCap w s.size 0 5)).size, (bytesRow s (grownCap w s.size 0 5)).size + 1))) w.heap.size w.heap.size s.size (grownCap w s.size 0 5) s.data.toList := by
  have hge := grownCap_ge w s.size 0 5
  have hsz : (bytesRow s (grownCap w s.size 0 5)).size = grownCap w s.size 0 5 := by
    unfold bytesRow; simp; have e : s.data.size = s.size := rfl; omega
  have hcell : ∀ j, (w.drew.alloc (.cells (bytesRow s (grownCap w s.size 0 5)) 5 ((bytesRow s (grownCap w s.size 0 5)).size, (bytesRow s (grownCap w s.size 0 5)).size + 1))).cell? ⟨w.heap.size, j, none⟩ = (bytesRow s (grownCap w s.size 0 5))[j]? := fun j => World.cell?_alloc_mark w.drew _ _ _ j
  refine ⟨Nat.le_refl _, (len_s s).symm, hge, grownCap_le_maxLen w _ _ _ hs, by simp, fun j hj => ?_, fun j hj => ⟨?_, ?_⟩⟩
  · rw [hcell, bytesRow_at s _ j hj, get_s s j hj]; rfl
  · rw [hcell, Array.getElem?_eq_getElem (by omega)]; rfl
  · have e := World.frozen?_alloc_mark w.drew (bytesRow s (grownCap w s.size 0 5)) 5 (bytesRow s (grownCap w s.size 0 5)).size ((bytesRow s (grownCap w s.size 0 5)).size + 1) j
    refine e.trans ?_
    rw [hsz, decide_eq_false (by omega)]; rfl
theorem RowN.text {w : World} {base g n cap : Nat} {bl : List UInt8} (h : RowN w base g n cap bl) : (convert 36 9 (.slice (some ⟨g, 0, none⟩) n cap)).run Tryd.prog w = .ok (.string (bs bl)) w := by
  obtain ⟨h1, rfl, h3, h4, h5, h6, h7⟩ := h
  refine run_convert_bytes_back w _ _ 5 ⟨g, 0, none⟩ cap bl Tryd.underlying36 Tryd.underlying5 Tryd.underlying9 (fun j hj => ?_)
  rw [WideShapes.add_plain, Nat.zero_add, h6 j hj, List.getD_eq_getElem?_getD, List.getElem?_eq_getElem hj]; rfl
theorem conv_row (W : World) (u : ByteArray) (hu : u.size ≤ maxLen) : ∃ cap V, (convert 9 36 (.string u)).run Tryd.prog W = .ok (.slice (some ⟨W.heap.size, 0, none⟩) u.size cap) V ∧ RowN V W.heap.size W.heap.size u.size cap u.data.toList ∧ Below W.heap.size W V :=
  ⟨_, _, run_bytes_of_string W _ _ _ u Tryd.underlying9 Tryd.underlying36 Tryd.underlying5, RowN.made W u hu, (below_drewN (k := 1) (Below.refl _ _) (Nat.le_refl _)).alloc (Nat.le_refl _) _⟩
/-- One byte more. -/
theorem append_rowN {w : World} {ops : Array Oper} {rest : List Oper} {o : Oper} {a : Act} {Q : Exit → Act → World → Prop} (hgd : o.guard = none) (sl x : Operand)
    (ho : o.op = .call { callee := .builtin .append, args := #[sl, x], argTypes := #[36, 36] }) (base g n cap : Nat) (bl : List UInt8) (b : UInt8)
    (hs : a.eval sl = .slice (some ⟨g, 0, none⟩) n cap) (hrow : RowN w base g n cap bl) (q c : Nat) (hx : a.eval x = .slice (some ⟨q, 0, none⟩) 1 c) (hc : w.cell? ⟨q, 0, none⟩ = some (.int .u8 b.toNat)) (hn : n ≤ 1000000) (hb : base ≤ w.heap.size)
    (h : ∀ g' cap' w', RowN w' base g' (n + 1) cap' (bl ++ [b]) → (∀ w0, Below base w0 w → Below base w0 w') → wpList Tryd.prog ops Q rest (a.put o.dst (.slice (some ⟨g', 0, none⟩) (n + 1) cap')) w') :
    wpList Tryd.prog ops Q (o :: rest) a w := by
  obtain ⟨i1, hi, hz0, hz1, hz2⟩ := info_parts infoB
  obtain ⟨h1, hnl, h3, h4, h5, h6, h7⟩ := hrow
  have holds : ∀ j u, (bcells bl)[j]? = some u → w.cell? ⟨g, 0 + j, none⟩ = some u := fun j u hj => by
    have hjl : j < bl.length := by
      rcases Nat.lt_or_ge j bl.length with h | h
      · exact h
      · rw [List.getElem?_eq_none (by rw [bcells_len]; exact h)] at hj; cases hj
    rw [Nat.zero_add, h6 j (by omega), ← hj]
    unfold bcells
    rw [List.getElem?_map, List.getElem?_eq_getElem hjl, List.getD_eq_getElem?_getD, List.getElem?_eq_getElem hjl]; rfl
  have hlast : ∀ j, j < n + 1 → (bl ++ [b]).getD j 0 = if j < n then bl.getD j 0 else b := fun j hj => by
    rw [List.getD_eq_getElem?_getD, List.getD_eq_getElem?_getD]
    by_cases hlt : j < n
    · rw [if_pos hlt, List.getElem?_append_left (by omega)]
    · rw [if_neg hlt, List.getElem?_append_right (by omega), show j - bl.length = 0 from by omega]; rfl
  refine wpList_append_arg w hgd sl x _ ho 5 i1 _ 1 1 Tryd.underlying36 hi hz0 hz1 hz2 rfl (by omega) g 0 n cap (bcells bl) hs (by rw [bcells_len]; omega) holds ⟨q, 0, none⟩ 1 c [.int .u8 b.toNat] hx rfl ?_ (by intro u hu; simp at hu; subst hu; rfl) ?_ (by unfold maxLen; omega) (by omega) ?_ ?_
  · intro j u hj
    rw [WideShapes.add_plain]
    cases j with
    | zero => simp at hj; subst hj; exact hc
    | succ j => simp at hj
  · intro hr j hj
    simp at hj
    subst hj
    exact h7 _ (by omega)
  · intro hr
    refine h g cap _ ?_ ?_
    · have hsome := (h7 n (by omega)).1
      have hoth : ∀ j, j ≠ n → (w.setCell ⟨g, 0 + n * 1, none⟩ (.int .u8 b.toNat)).cell? ⟨g, j, none⟩ = w.cell? ⟨g, j, none⟩ := fun j hj => World.cell?_setCell_other w ⟨g, 0 + n * 1, none⟩ ⟨g, j, none⟩ _ (fun e => hj (by injection e with _ e; omega))
      have hsame : (w.setCell ⟨g, 0 + n * 1, none⟩ (.int .u8 b.toNat)).cell? ⟨g, n, none⟩ = some (.int .u8 b.toNat) := by
        rw [show 0 + n * 1 = n from by omega]
        exact World.cell?_setCell_same' _ _ _ hsome
      refine ⟨h1, by simp; omega, hr, h4, by show _ < (w.setCell ⟨g, 0 + n * 1, none⟩ _).heap.size; simpa using h5, fun j hj => ?_, fun j hj => ⟨?_, ?_⟩⟩
      · show (w.setCell ⟨g, 0 + n * 1, none⟩ (.int .u8 b.toNat)).cell? ⟨g, j, none⟩ = _
        rw [hlast j hj]
        by_cases hlt : j < n
        · rw [hoth j (by omega), if_pos hlt]; exact h6 j hlt
        · obtain rfl : j = n := by omega
          rw [hsame, if_neg hlt]
      · show ((w.setCell ⟨g, 0 + n * 1, none⟩ (.int .u8 b.toNat)).cell? ⟨g, j, none⟩).isSome = true
        by_cases hjn : j = n
        · subst hjn; rw [hsame]; rfl
        · rw [hoth j hjn]; exact (h7 j hj).1
      · show (w.setCell ⟨g, 0 + n * 1, none⟩ (.int .u8 b.toNat)).frozen? ⟨g, j, none⟩ = false
        simpa using (h7 j hj).2
    · intro w0 hb0
      exact hb0.setCell (p := ⟨g, 0 + n * 1, none⟩) h1 _
  · intro hr v' w' hown hgr
    rcases hown.2 with ⟨_, e0⟩ | ⟨g', cap', cur, rfl, hg', hh, hnc, hcm, hcs, _⟩
    · omega
    · refine h g' cap' w' ?_ (fun w0 hb0 => hb0.grown hgr hb (fun j hj => by cases hj))
      have hlt' : g' < w'.heap.size := (World.ownsRow.lt hown g' rfl).2
      refine ⟨Nat.le_trans hb hg', by simp; omega, hnc, hcm, hlt', fun j hj => ?_, fun j hj => ⟨?_, World.ownsRow.frozenAt hown j⟩⟩
      · have hc1 := World.ownsRow.cells hown (g := g') rfl j (.int .u8 ((bl ++ [b]).getD j 0).toNat) (by
          have e : bcells bl ++ [Value.int .u8 b.toNat] = bcells (bl ++ [b]) := by unfold bcells; rw [List.map_append]; rfl
          have hj2 : j < (bl ++ [b]).length := by simp; omega
          rw [e]
          unfold bcells
          rw [List.getElem?_map, List.getElem?_eq_getElem hj2, List.getD_eq_getElem?_getD, List.getElem?_eq_getElem hj2]; rfl)
        rw [WideShapes.add_plain, Nat.zero_add] at hc1
        exact hc1
      · have hjc : j < cur.size := by omega
        simp [World.cell?, hh, hjc]
end Go.Proofs.YtphcjpomneejmaaDoor
