/- What is sorted lies in its block as before, in order. -/
import Derived.Test.YtogflbpphacokaaPolyU
namespace Go.Proofs.Ytogflbpphacokaa
open Go.RowKit Go.Sort

def wrapL : (l : List Mo) → (∀ m ∈ l, m.wf) → List WMo
  | [], _ => []
  | a :: t, h => ⟨a, h a (by simp)⟩ :: wrapL t (fun m hm => h m (by simp [hm]))
def bare (l : List WMo) : List Mo := l.map WMo.val
theorem bare_wrap : ∀ (l : List Mo) (h : ∀ m ∈ l, m.wf), bare (wrapL l h) = l
  | [], _ => rfl
  | a :: t, h => by
    have := bare_wrap t (fun m hm => h m (by simp [hm]))
    unfold bare at this ⊢
    simp [wrapL, this]
theorem wrap_len (l : List Mo) (h : ∀ m ∈ l, m.wf) : (wrapL l h).length = l.length := by
  have := congrArg List.length (bare_wrap l h)
  simpa [bare] using this
theorem enc_get (x : WMo) (r : Nat) (hr : r < 7) : (encW x)[r]! = x.val.cell r := by
  match r, hr with
  | 0, _ => rfl
  | 1, _ => rfl
  | 2, _ => rfl
  | 3, _ => rfl
  | 4, _ => rfl
  | 5, _ => rfl
  | 6, _ => rfl
theorem nth_bare (d : Array WMo) (k : Nat) (hk : k < d.size) : nth (bare d.toList) k = (d[k]!).val := by
  unfold nth bare
  rw [List.getD_eq_getElem?_getD, List.getElem?_map, Array.getElem?_toList, Array.getElem?_eq_getElem hk, getElem!_pos d k hk]; rfl
theorem bare_len (d : Array WMo) : (bare d.toList).length = d.size := by simp [bare]
theorem flat_bare (d : Array WMo) (j : Nat) (hj : j < d.size * 7) : ((bare d.toList).flatMap Mo.cells)[j]? = some ((flatK encW 7 d)[j]!) := by
  have hq : j / 7 < d.size := Nat.div_lt_of_lt_mul (by omega)
  have hr : j % 7 < 7 := Nat.mod_lt _ (by omega)
  have h := flat_get (bare d.toList) (j / 7) (j % 7) (by rw [bare_len]; exact hq) hr
  rw [show j / 7 * 7 + j % 7 = j from by omega] at h
  rw [h, get_flatK encW 7 d j hj, enc_get _ _ hr, nth_bare d _ hq]
theorem holds_own {w : World} {base g c n : Nat} {d : Array WMo} (h : Own w base (.slice (some ⟨g, 0, none⟩) n c) (bare d.toList)) : HoldsK encW 7 w g 0 d := by
  intro j hj
  rw [size_flatK] at hj
  have hp := h.plain
  have hn : n = d.size := by have := hp.1; rw [flat_len, bare_len] at this; omega
  rw [Nat.zero_add]
  exact ⟨by rw [World.ownsRow.cellAt hp j (by omega)]; exact flat_bare d j hj, World.ownsRow.frozenAt hp j⟩
theorem own_sorted {w : World} {base g c n k : Nat} {l : List Mo} {d : Array WMo} {os : Array Obj} (h : Own w base (.slice (some ⟨g, 0, none⟩) n c) l) (hl : l.length = n) (hd : d.size = n) :
    Own (sortWorldK encW 7 w g 0 k d os) base (.slice (some ⟨g, 0, none⟩) n c) (bare d.toList) := by
  obtain ⟨_, ⟨e, _⟩ | ⟨g', cap, cur, e, hb, hg, hn, hm, hs, ht⟩⟩ := h
  · cases e
  · injection e with e1 _ e3
    injection e1 with e1
    injection e1 with e1
    subst e1 e3
    have hlt : g < w.heap.size := by
      rcases Nat.lt_or_ge g w.heap.size with h | h
      · exact h
      · rw [Array.getElem?_eq_none h] at hg; cases hg
    subst hd
    unfold Own
    rw [bare_len]
    refine ⟨by rw [flat_len, bare_len], .inr ⟨g, c, putCells id 0 (flatK encW 7 d) cur, rfl, hb, ?_, by omega, hm, by simpa [putCells] using hs, ?_⟩⟩
    · unfold sortWorldK putRowK putRow
      rw [heap_grow_old _ _ (by simpa [mapBlock, Go.Sort.ahead] using hlt)]
      simp [mapBlock, Go.Sort.ahead, Array.getElem?_modify, hg, onCells]
    · apply List.ext_getElem?
      intro j
      rw [List.getElem?_take]
      by_cases hj : j < d.size * 7
      · have hjc : j < cur.size := by rw [hs]; exact Nat.lt_of_lt_of_le hj (Nat.mul_le_mul_right 7 (by omega))
        rw [if_pos hj, flat_bare d j hj, Array.getElem?_toList]
        simp only [putCells, Array.getElem?_mapIdx, Array.getElem?_eq_getElem hjc, Option.map_some, Nat.zero_add, size_flatK, Nat.zero_le, true_and, Nat.sub_zero, id]
        rw [if_pos hj]
      · rw [if_neg hj, List.getElem?_eq_none (by rw [flat_len, bare_len]; omega)]
theorem below_sorted {w : World} {base g k : Nat} {d : Array WMo} {os : Array Obj} (hg : base ≤ g) (hlt : g < w.heap.size) : Below base w (sortWorldK encW 7 w g 0 k d os) := by
  unfold sortWorldK putRowK putRow
  have hsz : (mapBlock (Go.Sort.ahead w k) g (putCells id 0 (flatK encW 7 d))).heap.size = w.heap.size := by simp [mapBlock, Go.Sort.ahead]
  refine ⟨rfl, rfl, rfl, by simp [grow, mapBlock, Go.Sort.ahead], fun i hi => ?_⟩
  rw [heap_grow_old _ _ (by rw [hsz]; omega)]
  simp [mapBlock, Go.Sort.ahead, Array.getElem?_modify]
  intro e; omega
end Go.Proofs.Ytogflbpphacokaa
