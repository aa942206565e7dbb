/- Layer 4, put together: ParI, ParJ, ParK, ParKa, ParKb, ParL, ParN. -/
import Derived.Deep.LoopGhost
import Derived.Test.YtbapgdhcbfpdoaaGreatDoorZPd
/- Contract of package parse: addInput. Written by gen_i.py. -/
namespace Go.Proofs.YtbapgdhcbfpdoaaGreatDoor
open Go.RowKit
theorem ft_below (w : World) (t : Tk) : Below w.heap.size w ((w.alloc (.cells #[.int .i64 0, .int .i64 0] 41)).alloc (.cells #[.int .i64 t.k, .int .i64 t.a, .string (bs t.w), .int .i64 t.n] 56)) := ((Below.refl _ _).alloc (Nat.le_refl _) _).alloc (by simp) _
set_option maxRecDepth 100000 in
set_option maxHeartbeats 3200000 in
theorem addInput_bad (w : World) (P : Nat) (xs : List NM) (ls : List LM) (vi vl : Value) (h : PS w P xs ls vi vl) (b o c : Nat) (f t : Tk) (ts : List Tk) (hT : TR w b o c (f :: t :: ts)) (hL : LaidP w) (hn2 : ls.length ≤ 1000) (hb : 0 < ls.length ∨ t.k = 4 ∨ nameB t.w = false) :
    Calls Tryz.prog 36 #[.pointer (some ⟨P, 0, none⟩), .slice (some ⟨b, o, none⟩) (f :: t :: ts).length c] w (AddRes w P xs ls vi vl (addInR (pgOf xs ls) f (t :: ts))) := by
  obtain ⟨d0, d1, df⟩ := h.cells
  have hPl := h.lt
  obtain ⟨A, ct, rfl, hct⟩ := row_shape h.owl
  have hf := hT.tok 0 (by simp)
  rw [Nat.zero_mul, Nat.add_zero] at hf
  obtain ⟨f0, f1, f2, f3⟩ : Cells4 w b o f := hf
  obtain ⟨t0, t1, t2, t3⟩ : Cells4 w b (o + 4) t := hT.tok 1 (by simp)
  have lb : b < w.heap.size := by obtain ⟨cs, fr, e⟩ := hT.tb; exact heap_lt e
  have hcap := hT.cap
  have hlen := hT.len
  have hwt := hT.lw t (by simp)
  simp only [List.length_cons] at hcap hlen ⊢
  have hnm := fun W hP => name_any (bs t.w) W hP (by rw [bs_size]; omega)
  rw [bs_list] at hnm
  clear h hT df
  by_cases hl0 : 0 < ls.length
  · have hx := Lib.hid (show addInR (pgOf xs ls) f (t :: ts) = .err f.a 40 by unfold addInR; rw [if_pos (by simpa [pgOf] using hl0)])
    have hl1 : (0 : Int) < (ls.length : Int) := by omega
    clear hb hnm
    go_enter Tryz.func36, Tryz.ntmps36
    go_wp2_with (go_at_call 22; refine (fault_any f 40 _).mono ?_; rintro e w1 ⟨rfl, g1⟩; have h1 := (g1.below.block w.heap.size (by simp)).trans (heap_alloc_new w (.cells #[.int .i64 0, .int .i64 0] 41)); have j0 : w1.cell? ⟨w.heap.size, 0, none⟩ = some (.int .i64 0) := (by rw [cell_of_row _ _ _ _ _ _ h1]; rfl); have j1 : w1.cell? ⟨w.heap.size, 1, none⟩ = some (.int .i64 0) := (by rw [cell_of_row _ _ _ _ _ _ h1]; rfl); have j2 := frozen_of_row _ _ 0 _ _ h1; have j3 := frozen_of_row _ _ 1 _ _ h1; clear h1; have G1 := Lib.hid g1; clear g1)
    exact bodyPost_ret (v := .agg #[.int .i64 f.a, .int .i64 40]) (by simp [results, Tryz.results36, go_sem, j0, j1]) rfl (by rw [hx.out]; exact ⟨rfl, ((((Fr.refl (PM P vi (.slice A ls.length ct)) w).alloc _).gr G1.out).set (b := w.heap.size) (.inr (Nat.le_refl _)) 0 (.int .i64 f.a)).set (b := w.heap.size) (.inr (Nat.le_refl _)) 1 (.int .i64 40)⟩)
  · have hl1 : ¬ (0 : Int) < (ls.length : Int) := by omega
    by_cases hk : t.k = 4
    · have hx := Lib.hid (show addInR (pgOf xs ls) f (t :: ts) = .err t.a 42 by unfold addInR; rw [if_neg (by simpa [pgOf] using hl0)]; simp only; rw [if_pos hk])
      clear hb hnm hl0
      obtain ⟨tk, ta, tw, tn⟩ := t
      obtain rfl : tk = 4 := hk
      go_enter Tryz.func36, Tryz.ntmps36
      go_wp2_with (go_at_call 22; refine (fault_any ⟨4, ta, tw, tn⟩ 42 _).mono ?_; rintro e w1 ⟨rfl, g1⟩; have h1 := (g1.below.block w.heap.size (by simp; omega)).trans (box1 w (.cells #[.int .i64 0, .int .i64 0] 41) (.cells #[.int .i64 4, .int .i64 ta, .string (bs tw), .int .i64 tn] 56)); have j0 : w1.cell? ⟨w.heap.size, 0, none⟩ = some (.int .i64 0) := (by rw [cell_of_row _ _ _ _ _ _ h1]; rfl); have j1 : w1.cell? ⟨w.heap.size, 1, none⟩ = some (.int .i64 0) := (by rw [cell_of_row _ _ _ _ _ _ h1]; rfl); have j2 := frozen_of_row _ _ 0 _ _ h1; have j3 := frozen_of_row _ _ 1 _ _ h1; clear h1; have G1 := Lib.hid g1; clear g1)
      exact bodyPost_ret (v := .agg #[.int .i64 ta, .int .i64 42]) (by simp [results, Tryz.results36, go_sem, j0, j1]) rfl (by rw [hx.out]; exact ⟨rfl, (((((Fr.refl (PM P vi (.slice A ls.length ct)) w).alloc _).alloc _).gr G1.out).set (b := w.heap.size) (.inr (Nat.le_refl _)) 0 (.int .i64 ta)).set (b := w.heap.size) (.inr (Nat.le_refl _)) 1 (.int .i64 42)⟩)
    · have hnf : nameB t.w = false := by rcases hb with hb | hb | hb; exact (hl0 hb).elim; exact (hk hb).elim; exact hb
      have hx := Lib.hid (show addInR (pgOf xs ls) f (t :: ts) = .err t.a 41 by unfold addInR; rw [if_neg (by simpa [pgOf] using hl0)]; simp only; rw [if_neg hk, if_pos hnf])
      rw [hnf] at hnm
      have hk2 : (t.k == 4) = false := by simpa using hk
      clear hb hl0 hnf hk
      go_enter Tryz.func36, Tryz.ntmps36
      go_wp2_with (first | (go_at_call 38; refine (hnm _ (hL.below (ft_below w t))).mono ?_; rintro e w2 ⟨rfl, g2⟩; have h2 := (g2.block w.heap.size (by simp; omega)).trans (box1 w (.cells #[.int .i64 0, .int .i64 0] 41) (.cells #[.int .i64 t.k, .int .i64 t.a, .string (bs t.w), .int .i64 t.n] 56)); have h3 := (g2.block (w.heap.size + 1) (by simp)).trans (box2 w (.cells #[.int .i64 0, .int .i64 0] 41) (.cells #[.int .i64 t.k, .int .i64 t.a, .string (bs t.w), .int .i64 t.n] 56)); have s0 : w2.cell? ⟨w.heap.size + 1, 0, none⟩ = some (.int .i64 t.k) := (by rw [cell_of_row _ _ _ _ _ _ h3]; rfl); have s1 : w2.cell? ⟨w.heap.size + 1, 1, none⟩ = some (.int .i64 t.a) := (by rw [cell_of_row _ _ _ _ _ _ h3]; rfl); have s2 : w2.cell? ⟨w.heap.size + 1, 2, none⟩ = some (.string (bs t.w)) := (by rw [cell_of_row _ _ _ _ _ _ h3]; rfl); have s3 : w2.cell? ⟨w.heap.size + 1, 3, none⟩ = some (.int .i64 t.n) := (by rw [cell_of_row _ _ _ _ _ _ h3]; rfl); have H2 := Lib.hid (And.intro g2 h2); clear g2 h2 h3) | (go_at_call 22; refine (fault_any t 41 _).mono ?_; rintro e w1 ⟨rfl, g1⟩; have h1 := (g1.below.block w.heap.size (heap_lt H2.out.2)).trans H2.out.2; have j0 : w1.cell? ⟨w.heap.size, 0, none⟩ = some (.int .i64 0) := (by rw [cell_of_row _ _ _ _ _ _ h1]; rfl); have j1 : w1.cell? ⟨w.heap.size, 1, none⟩ = some (.int .i64 0) := (by rw [cell_of_row _ _ _ _ _ _ h1]; rfl); have j2 := frozen_of_row _ _ 0 _ _ h1; have j3 := frozen_of_row _ _ 1 _ _ h1; clear h1; have G1 := Lib.hid g1; clear g1))
      exact bodyPost_ret (v := .agg #[.int .i64 t.a, .int .i64 41]) (by simp [results, Tryz.results36, go_sem, j0, j1]) rfl (by rw [hx.out]; exact ⟨rfl, ((((below_fr (ft_below w t) (PM P vi (.slice A ls.length ct))).trans (below_fr H2.out.1 _)).gr G1.out).set (b := w.heap.size) (.inr (Nat.le_refl _)) 0 (.int .i64 t.a)).set (b := w.heap.size) (.inr (Nat.le_refl _)) 1 (.int .i64 41)⟩)
end Go.Proofs.YtbapgdhcbfpdoaaGreatDoor
/- Contract of package parse: addInput, an input that is read. Written by gen_j4.py. -/
namespace Go.Proofs.YtbapgdhcbfpdoaaGreatDoor
open Go.RowKit
def inOf (p : Pg) (t : Tk) : Sr → Pr
  | .err a e => .err a e
  | .ok sd => .ok ⟨p.ins ++ [⟨t.w, t.a, sd⟩], p.lns⟩
theorem input_close {w W3 w4 : World} {P : Nat} {xs : List NM} {ls : List LM} {vl : Value} {A : Option Addr} {ct : Nat} (h : PS w P xs ls (.slice A xs.length ct) vl) (m : NM) {x : Obj} {g cap n1 : Nat} {cs1 : Array Value} {fr1 : Nat × Nat} (hb : Below w.heap.size w W3) (hgrow : (W3.alloc x).drew.grownBy w4 (Value.slice A xs.length ct).ownBlock)
    (hown : w4.ownsRow (P + 1) 48 3 (.slice (some ⟨g, 0, none⟩) (xs.length + 1) cap) (xs.length + 1) (xs.flatMap NM.cells ++ m.cells)) (hat : (Value.slice A xs.length ct).ownBlock = some g ∨ g = W3.heap.size + 1) (hr : RdS W3 m.A m.inp.sd) (hc : m.inp.sd.length ≤ m.c) (hn1 : w.heap.size ≤ n1) (hf1 : W3.heap[n1]? = some (.cells cs1 41 fr1)) :
    PS (((w4.setCell ⟨P, 0, none⟩ (.slice (some ⟨g, 0, none⟩) (xs.length + 1) cap)).setCell ⟨n1, 0, none⟩ (.int .i64 0)).setCell ⟨n1, 1, none⟩ (.int .i64 0)) P (xs ++ [m]) ls (.slice (some ⟨g, 0, none⟩) (xs.length + 1) cap) vl ∧
    Fr (PM P (.slice A xs.length ct) vl) w (((w4.setCell ⟨P, 0, none⟩ (.slice (some ⟨g, 0, none⟩) (xs.length + 1) cap)).setCell ⟨n1, 0, none⟩ (.int .i64 0)).setCell ⟨n1, 1, none⟩ (.int .i64 0)) ∧ NR w.heap.size (.slice A xs.length ct) (.slice (some ⟨g, 0, none⟩) (xs.length + 1) cap) := by
  have hPl := h.lt
  have hrow : ∀ j, (Value.slice A xs.length ct).ownBlock = some j → P < j ∧ j < w.heap.size ∧ ∃ cur, W3.heap[j]? = some (.cells cur 48 (0, 0)) := fun j hj => by
    have h1 := row_base h.owi hj
    obtain ⟨cur, h2⟩ := row_type h.owi hj
    exact ⟨by omega, h1.2, cur, (hb.block j h1.2).trans h2⟩
  have hP3 : W3.heap[P]? = _ := (hb.block P hPl).trans h.blk
  have hk4 : ∀ j, j < W3.heap.size → (Value.slice A xs.length ct).ownBlock ≠ some j → w4.heap[j]? = W3.heap[j]? := fun j hj hn => ((hgrow.block j (by simp; omega) (Ne.symm hn)).trans (heap_alloc_old W3 _ hj))
  have hz := hgrow.size
  have hz : W3.heap.size + 1 ≤ w4.heap.size := by simpa using hz
  have hg := (row_base hown (k := g) rfl)
  have l1 := heap_lt hf1
  have gn : g ≠ n1 := by
    rcases hat with h1 | h1
    · have := hrow _ h1; omega
    · omega
  have hbs := hb.size
  have F0 : Fr (fun j => j = P ∨ (Value.slice A xs.length ct).ownBlock = some j) w w4 := ((below_fr hb _).trans (below_fr (up_drew W3 x) _)).trans (Fr.grown hgrow _ fun j hj => .inr hj)
  have F1 := ((F0.set (.inl (.inl rfl) : (P = P ∨ (Value.slice A xs.length ct).ownBlock = some P) ∨ _) 0 (.slice (some ⟨g, 0, none⟩) (xs.length + 1) cap)).set (b := n1) (.inr hn1) 0 (.int .i64 0)).set (b := n1) (.inr hn1) 1 (.int .i64 0)
  have F := F1.weak (T := PM P (.slice A xs.length ct) vl) fun i _ hi => hi.elim .inl fun e => .inr (.inl e)
  refine ⟨h.next F ?_ ?b ?a (fun _ hm => .inl hm) ?c, F, NR.of (hat.imp id fun e => by omega) rfl⟩
  · rw [Fr.set.heap_set_other (by omega), Fr.set.heap_set_other (by omega), heap_setCell_same _ _ _ _ _ _ ((hk4 P (by omega) (fun e => by have := (hrow _ e).1; omega)).trans hP3)]; rfl
  case a =>
      exact row_keep h.owl (fun j hk hl => F1.block j hl (by
        rintro (h1 | h1)
        · have := (row_base h.owl hk).1; omega
        · exact rows_ne h.owi h.owl (by decide) h1 hk)) (Nat.le_refl _)
  case b =>
      rw [List.length_append, List.flatMap_append]
      simp only [List.length_cons, List.length_nil, List.flatMap_cons, List.flatMap_nil, List.append_nil]
      exact ownsRow_setCell_other (a := ⟨n1, 1, none⟩) (ownsRow_setCell_other (a := ⟨n1, 0, none⟩) (ownsRow_setCell_other (a := ⟨P, 0, none⟩) hown (by simp [Value.ownBlock]; omega) _) (by simp [Value.ownBlock]; omega) _) (by simp [Value.ownBlock]; omega) _
  case c =>
      intro y hy
      rw [List.mem_append] at hy
      rcases hy with hy | hy
      · exact .inl hy
      · simp at hy
        subst hy
        refine .inr ⟨hr.grow (by simp; omega) fun b cs fr hbb => ?_, hc⟩
        have hlb := heap_lt hbb
        have nT : ∀ {cs' : Array Value} {T' : TypeId} {fr' : Nat × Nat} {j : Nat}, W3.heap[j]? = some (.cells cs' T' fr') → T' ≠ 50 → b ≠ j := fun {cs' T' fr' j} hj h1 e => by
          subst e
          rw [hbb] at hj
          simp at hj
          exact h1 hj.2.1.symm
        rw [Fr.set.heap_set_other (nT hf1 (by decide)), Fr.set.heap_set_other (nT hf1 (by decide)), Fr.set.heap_set_other (nT hP3 (by decide))]
        refine hk4 b hlb fun e => ?_
        obtain ⟨cur, hc'⟩ := (hrow b e).2.2
        exact nT hc' (by decide) rfl

def scell (x : List UInt8 × Int) : List Value := [.string (bs x.1), .int .i64 x.2]
/-- What the loop over an input's sides holds. -/
structure SI (w : World) (I : Nat) (t : Tk) (mid : List Tk) (k : Nat) (sd : List (List UInt8 × Int)) (A : Option Addr) (c : Nat) (wx : World) : Prop where
  run : sidesR mid [] = sidesR (mid.drop k) sd
  bl : Below w.heap.size w wx
  f : wx.heap[w.heap.size]? = some (.cells #[.int .i64 0, .int .i64 0] 41 (0, 0))
  i : wx.heap[I]? = some (.cells #[.string (bs t.w), .int .i64 t.a, .slice A sd.length c] 48 (0, 0))
  row : wx.ownsRow (I + 1) 50 2 (.slice A sd.length c) sd.length (sd.flatMap scell)
  le : sd.length ≤ 4
  li : w.heap.size < I ∧ I < wx.heap.size
theorem newsN (W : World) (n : Nat) (hn : W.heap.size = n) (cs : Array Value) (T : TypeId) : ∀ (j : Nat) (u : Value), cs.toList[j]? = some u → (W.alloc (.cells cs T)).cell? ((⟨n, 0, none⟩ : Addr).add j) = some u := by
  subst hn; exact World.news_of_block (cs := cs) (t := T) (fr := (0, 0)) (heap_alloc_new W _)
theorem infoIn : (Tryz.prog.info? 48).map (fun i => (i.zero, i.size, i.bytes)) = some (some (.agg #[.string ⟨#[]⟩, .int .i64 0, .slice none 0 0]), 3, 48) := by kernel_rfl
theorem NM.one (m : NM) : ∀ u ∈ m.cells, u.oneCell' = true := by
  intro u hu; simp [NM.cells] at hu; rcases hu with rfl | rfl | rfl <;> rfl
theorem flatS_get : ∀ (l : List (List UInt8 × Int)) (i j : Nat) (h : i < l.length), j < 2 → (l.flatMap scell)[i * 2 + j]? = (scell l[i])[j]?
  | [], i, j, h, _ => by simp at h
  | a :: t, 0, j, _, hj => by
    rw [List.flatMap_cons, List.getElem?_append_left (by simp [scell]; omega)]; simp
  | a :: t, i + 1, j, h, hj => by
    have ih := flatS_get t i j (by simpa using h) hj
    rw [List.flatMap_cons, List.getElem?_append_right (by simp [scell]; omega)]
    simp only [List.getElem_cons_succ]
    rw [← ih]
    congr 1
    simp only [scell, List.length_cons, List.length_nil]
    omega
theorem sides_read {w : World} {base : Nat} {A : Option Addr} {c : Nat} {l : List (List UInt8 × Int)} (h : w.ownsRow base 50 2 (.slice A l.length c) l.length (l.flatMap scell)) : RdS w A l := by
  intro hl
  obtain ⟨g, cap, e, hg1, hg2⟩ := h.form hl
  injection e with e1 e2 e3
  subst e1 e3
  obtain ⟨cur, hcur⟩ := row_heap h
  refine ⟨g, 0, rfl, ⟨hg2, cur, (0, 0), hcur⟩, fun i hi => ?_⟩
  have hx : l.getD i default = l[i] := by rw [List.getD_eq_getElem?_getD, List.getElem?_eq_getElem hi]; rfl
  rw [hx]
  have hc : ∀ j, j < 2 → w.cell? ⟨g, 0 + i * 2 + j, none⟩ = (scell l[i])[j]? := fun j hj => by
    rw [Nat.zero_add, World.ownsRow.cellAt h _ (by omega), flatS_get l i j hi hj]
  exact ⟨hc 0 (by omega), hc 1 (by omega)⟩
theorem infoS : (Tryz.prog.info? 50).map (fun i => (i.zero, i.size, i.bytes)) = some (some (.agg #[.string ⟨#[]⟩, .int .i64 0]), 2, 24) := by kernel_rfl
theorem SI.box {w : World} {I : Nat} {t : Tk} {mid : List Tk} {k : Nat} {sd : List (List UInt8 × Int)} {A : Option Addr} {c : Nat} {wx w' : World} (h : SI w I t mid k sd A c wx) (hb : Below wx.heap.size wx w') : SI w I t mid k sd A c w' := by
  have hs := h.bl.size
  obtain ⟨l1, l2⟩ := h.li
  exact ⟨h.run, h.bl.trans (hb.mono hs), (hb.block _ (by omega)).trans h.f, (hb.block _ l2).trans h.i, row_keep h.row (fun j _ hl => hb.block j hl) (Nat.le_refl _), h.le, l1, Nat.lt_of_lt_of_le l2 hb.size⟩
theorem SI.step {w : World} {I : Nat} {t u : Tk} {mid r : List Tk} {k : Nat} {sd : List (List UInt8 × Int)} {A : Option Addr} {c : Nat} {wx w4 : World} {x : Obj} {g cap : Nat} (h : SI w I t mid k sd A c wx) (hr : mid.drop k = u :: r) (ho : ¬ (u.k ≠ 2 ∧ nameB u.w = false)) (h4 : sd.length ≠ 4)
    (hgrow : (wx.alloc x).grownBy w4 (Value.slice A sd.length c).ownBlock) (hown : w4.ownsRow (I + 1) 50 2 (.slice (some ⟨g, 0, none⟩) (sd.length + 1) cap) (sd.length + 1) (sd.flatMap scell ++ scell (u.w, u.n))) :
    SI w I t mid (k + 1) (sd ++ [(u.w, u.n)]) (some ⟨g, 0, none⟩) cap (w4.setCell ⟨I, 2, none⟩ (.slice (some ⟨g, 0, none⟩) (sd.length + 1) cap)) := by
  have hs := h.bl.size
  obtain ⟨l1, l2⟩ := h.li
  have hb0 : ∀ j, (Value.slice A sd.length c).ownBlock = some j → I + 1 ≤ j := fun j hj => (row_base h.row hj).1
  have hz := hgrow.size
  have hz : wx.heap.size + 1 ≤ w4.heap.size := by simpa using hz
  have hk4 : ∀ j, j < I + 1 → w4.heap[j]? = wx.heap[j]? := fun j hj => ((hgrow.block j (by simp; omega) (fun e => by have := hb0 _ e.symm; omega)).trans (heap_alloc_old wx _ (by omega)))
  have hg := (row_base hown (k := g) rfl)
  have hB4 : Below w.heap.size wx w4 := ⟨hgrow.os, hgrow.tape, hgrow.output, by omega, fun j hj => hk4 j (by omega)⟩
  refine ⟨?_, (h.bl.trans hB4).setCell (p := ⟨I, 2, none⟩) (by show w.heap.size ≤ I; omega) _, ?_, ?_, ?_, ?_, l1, by simp; omega⟩
  · rw [h.run, hr, sidesR, if_neg ho, if_neg h4, ← List.drop_drop, hr]; rfl
  · rw [Fr.set.heap_set_other (by omega), hk4 _ (by omega)]; exact h.f
  · rw [heap_setCell_same _ _ _ _ _ _ ((hk4 I (by omega)).trans h.i), List.length_append]; rfl
  · rw [List.length_append, List.flatMap_append]
    simp only [List.length_cons, List.length_nil, List.flatMap_cons, List.flatMap_nil, List.append_nil]
    exact ownsRow_setCell_other (a := ⟨I, 2, none⟩) hown (by simp [Value.ownBlock]; omega) _
  · have := h.le; simp; omega
theorem tok_drop {ts : List Tk} {k : Nat} (h : k < ts.dropLast.length) : ts.dropLast.drop k = nth ts k :: ts.dropLast.drop (k + 1) := by
  rw [List.drop_eq_getElem_cons h]
  congr 1
  rw [List.length_dropLast] at h
  rw [List.getElem_dropLast, nth_get (by omega)]
set_option maxRecDepth 100000 in
set_option maxHeartbeats 6400000 in
theorem addInput_ok (w : World) (P : Nat) (xs : List NM) (ls : List LM) (vi vl : Value) (h : PS w P xs ls vi vl) (b o c : Nat) (f t : Tk) (ts : List Tk) (hT : TR w b o c (f :: t :: ts)) (hE : Ends ts) (hL : LaidP w) (hn : xs.length ≤ 1000) (hl0 : ls.length = 0) (hk : t.k ≠ 4) (hnf : nameB t.w = true) :
    Calls Tryz.prog 36 #[.pointer (some ⟨P, 0, none⟩), .slice (some ⟨b, o, none⟩) (f :: t :: ts).length c] w (AddRes w P xs ls vi vl (addInR (pgOf xs ls) f (t :: ts))) := by
  obtain ⟨d0, d1, df⟩ := h.cells
  have hPl := h.lt
  obtain ⟨A, ct, rfl, hct⟩ := row_shape h.owl
  rw [hl0] at hct d1
  obtain ⟨t0, t1, t2, t3⟩ : Cells4 w b (o + 4) t := hT.tok 1 (by simp)
  have lb : b < w.heap.size := by obtain ⟨cs, fr, e⟩ := hT.tb; exact heap_lt e
  have hcap := hT.cap
  have hlen := hT.len
  have hwt := hT.lw t (by simp)
  have hpos := hE.pos
  simp only [List.length_cons] at hcap hlen ⊢
  have hnm := fun W hP => name_any (bs t.w) W hP (by rw [bs_size]; omega)
  rw [bs_list, hnf] at hnm
  have HS := Lib.hid h
  have HT := Lib.hid hT
  clear h hT df
  have hk2 : (t.k == 4) = false := by simpa using hk
  have hx : addInR (pgOf xs ls) f (t :: ts) = inOf (pgOf xs ls) t (sidesR ts.dropLast []) := by unfold addInR; rw [if_neg (by simp [pgOf, hl0])]; simp only; rw [if_neg hk, if_neg (by simp [hnf])]; unfold inOf; cases sidesR ts.dropLast [] <;> rfl
  have HX := Lib.hid hx
  have HK := Lib.hid (And.intro hk hnf)
  clear hx hk hnf
  go_enter Tryz.func36, Tryz.ntmps36
  go_wp2_with (first | (go_at_call 38; refine (hnm _ (hL.below (ft_below w t))).mono ?_; rintro e w2 ⟨rfl, g2⟩; have h2 := (g2.block w.heap.size (by simp; omega)).trans (box1 w (.cells #[.int .i64 0, .int .i64 0] 41) (.cells #[.int .i64 t.k, .int .i64 t.a, .string (bs t.w), .int .i64 t.n] 56)); have h3 := (g2.block (w.heap.size + 1) (by simp)).trans (box2 w (.cells #[.int .i64 0, .int .i64 0] 41) (.cells #[.int .i64 t.k, .int .i64 t.a, .string (bs t.w), .int .i64 t.n] 56)); have s0 : w2.cell? ⟨w.heap.size + 1, 0, none⟩ = some (.int .i64 t.k) := (by rw [cell_of_row _ _ _ _ _ _ h3]; rfl); have s1 : w2.cell? ⟨w.heap.size + 1, 1, none⟩ = some (.int .i64 t.a) := (by rw [cell_of_row _ _ _ _ _ _ h3]; rfl); have s2 : w2.cell? ⟨w.heap.size + 1, 2, none⟩ = some (.string (bs t.w)) := (by rw [cell_of_row _ _ _ _ _ _ h3]; rfl); have s3 : w2.cell? ⟨w.heap.size + 1, 3, none⟩ = some (.int .i64 t.n) := (by rw [cell_of_row _ _ _ _ _ _ h3]; rfl); have H2 := Lib.hid (And.intro g2 h2); clear g2 h2 h3))
  obtain ⟨I, hI⟩ : ∃ I, I = w2.heap.size := ⟨_, rfl⟩
  rw [← hI]
  obtain ⟨W0, hW0⟩ : ∃ W, W = w2.alloc (.cells #[.string (bs t.w), .int .i64 t.a, .slice none 0 0] 48) := ⟨_, rfl⟩
  rw [← hW0]
  have HSI := Lib.hid (show SI w I t ts.dropLast 0 [] none 0 W0 by
    have hz := H2.out.1.size
    rw [size2] at hz
    have hbl : Below w.heap.size w w2 := (ft_below w t).trans (H2.out.1.mono (by rw [size2]; omega))
    rw [hW0, hI]
    exact ⟨rfl, hbl.alloc (by omega) _, (heap_alloc_old _ _ (heap_lt H2.out.2)).trans H2.out.2, heap_alloc_new _ _, World.ownsRow_nil _ _ _ _, by simp, by omega, by simp⟩)
  clear hI hW0 s0 s1 s2 s3
  have hdl : ts.dropLast.length = ts.length - 1 := List.length_dropLast
  have HDL := Lib.hid hdl
  clear hdl
  obtain ⟨i2, hi, hz0, hz1, hz2⟩ := info_parts infoS
  have HI2 := Lib.hid (And.intro hi (And.intro hz0 (And.intro hz1 hz2)))
  clear hi hz0 hz1 hz2
  go_loopg [44] (ts.length - 1) (fun g s44 wx => ∃ k sd As cs, k + g = ts.length - 1 ∧ s44 = .int .i64 k ∧ Hid (SI w I t ts.dropLast k sd As cs wx))
  case atStart => exact ⟨0, [], none, 0, by omega, rfl, HSI⟩
  case round =>
    obtain ⟨k, sd, As, cs, hkg, rfl, HV⟩ := hrel
    cases gk with
    | zero =>
      have hd : ts.dropLast.drop k = [] := List.drop_of_length_le (by rw [HDL.out]; omega)
      have HRUN := Lib.hid (show sidesR ts.dropLast [] = .ok sd by rw [HV.out.run, hd]; rfl)
      have hkn : k = ts.length - 1 := by omega
      clear hd
      obtain ⟨m, hm⟩ : ∃ m : NM, m = ⟨⟨t.w, t.a, sd⟩, As, cs⟩ := ⟨_, rfl⟩
      have hI3 : wr.heap[I]? = some (.cells m.cells.toArray 48 (0, 0)) := by rw [hm]; exact HV.out.i
      have hb3 := HV.out.bl
      obtain ⟨A1, ct1, rfl, hct1⟩ := row_shape HS.out.owi
      have hO3 := Lib.hid (row_keep HS.out.owi (fun j _ hl => hb3.block j hl) (Nat.le_refl _))
      have hP3 : wr.heap[P]? = _ := (hb3.block P HS.out.lt).trans HS.out.blk
      have nP : (Value.slice A1 xs.length ct1).ownBlock ≠ some P := fun h => by have := (row_base HS.out.owi h).1; omega
      have nO : ∀ j, w.heap.size ≤ j → (Value.slice A1 xs.length ct1).ownBlock ≠ some j := fun j hj h => by have := (row_base HS.out.owi h).2; omega
      have cP : wr.cell? ⟨P, 0, none⟩ = some (.slice A1 xs.length ct1) := by rw [cell_of_row _ _ _ _ _ _ hP3]; rfl
      have fP : wr.frozen? ⟨P, 0, none⟩ = false := frozen_of_row _ _ _ _ _ hP3
      have l30 : wr.cell? ⟨I, 0, none⟩ = some (.string (bs m.inp.nm)) := by rw [cell_of_row _ _ _ _ _ _ hI3]; rfl
      have l31 : wr.cell? ⟨I, 1, none⟩ = some (.int .i64 m.inp.pl) := by rw [cell_of_row _ _ _ _ _ _ hI3]; rfl
      have l32 : wr.cell? ⟨I, 2, none⟩ = some (.slice m.A m.inp.sd.length m.c) := by rw [cell_of_row _ _ _ _ _ _ hI3]; rfl
      have hwz := hb3.size
      have lP : P < wr.heap.size := by omega
      have lI := HV.out.li
      have lI2 := lI.2
      have ln0 : w.heap.size < wr.heap.size := heap_lt HV.out.f
      have hn1 : xs.length + 1 ≤ maxLen := by unfold maxLen; omega
      have hn2 : (xs.length + 1) * 48 ≤ 140737488355328 := by omega
      have hmi : m.inp = ⟨t.w, t.a, sd⟩ := by rw [hm]
      have hrs : RdS wr m.A m.inp.sd := by rw [hm]; exact sides_read HV.out.row
      have hmc : m.inp.sd.length ≤ m.c := by
        rw [hm]
        obtain ⟨_, _, e, hc⟩ := row_shape HV.out.row
        injection e with _ _ e3
        subst e3
        exact hc
      have HH := Lib.hid (And.intro hb3 (And.intro HV.out.f (And.intro hrs (And.intro hmc hmi))))
      clear hI3 hb3 hP3 hmi hm hrs hmc hwz
      obtain ⟨i0, hi, hz0, hz1, hz2⟩ := info_parts infoIn
      have HI := Lib.hid (And.intro hi (And.intro hz0 (And.intro hz1 hz2)))
      clear hi hz0 hz1 hz2
      go_wp2
      go_region_law ((refine step_append_lies _ (by rfl) _ _ _ (by rfl) (P + 1) 48 i0 _ 3 48 Tryz.underlying22 HI.out.1 HI.out.2.1 HI.out.2.2.1 HI.out.2.2.2 rfl (by omega) (.slice A1 xs.length ct1) xs.length (xs.flatMap NM.cells) (by rfl) ((hO3.out.alloc _).drew) ⟨wr.heap.size, 0, none⟩ 1 1 m.cells (by rfl) (by rfl) (World.news_of_block (cs := m.cells.toArray) (t := 48) (fr := (0, 0)) (heap_alloc_new wr _)) (NM.one m) (by omega) hn1 hn2 (by simp; omega) (wr.heap.size + 1) (by simp) ?_; intro g cap w4 hown4 hgrow hat hlt4; have hk4 : ∀ j, j < wr.heap.size → (Value.slice A1 xs.length ct1).ownBlock ≠ some j → w4.heap[j]? = wr.heap[j]? := fun j hj hn => ((hgrow.block j (by simp; omega) (Ne.symm hn)).trans (heap_alloc_old wr _ hj)); have k2 := (World.cell?_of_block (a := ⟨P, 0, none⟩) (hk4 _ lP nP)).trans cP; have k3 := (World.frozen?_of_block (a := ⟨P, 0, none⟩) (hk4 _ lP nP)).trans fP))
      all_goals
        have g1 : w4.heap[w.heap.size]? = _ := (hk4 _ ln0 (nO _ (by omega))).trans HH.out.2.1
        have j0 : w4.cell? ⟨w.heap.size, 0, none⟩ = some (.int .i64 0) := by rw [cell_of_row _ _ _ _ _ _ g1]; rfl
        have j1 : w4.cell? ⟨w.heap.size, 1, none⟩ = some (.int .i64 0) := by rw [cell_of_row _ _ _ _ _ _ g1]; rfl
        have j2 : w4.frozen? ⟨w.heap.size, 0, none⟩ = false := frozen_of_row _ _ _ _ _ g1
        have j3 : w4.frozen? ⟨w.heap.size, 1, none⟩ = false := frozen_of_row _ _ _ _ _ g1
        have q1 : ¬ P = w.heap.size := by omega
        have q2 : ¬ w.heap.size = P := by omega
        have hfin := Lib.hid (input_close HS.out m HH.out.1 hgrow hown4 hat HH.out.2.2.1 HH.out.2.2.2.1 (Nat.le_refl _) HH.out.2.1)
        clear g1 hgrow hown4 hat hk4
        go_wp2
        exact bodyPost_ret (v := .agg #[.int .i64 0, .int .i64 0]) (by simp [results, Tryz.results36, go_sem, j0, j1]) rfl (by rw [HX.out, HRUN.out]; exact ⟨rfl, xs ++ [m], ls, _, _, hfin.out.1, pg_in HH.out.2.2.2.2, hfin.out.2.1, hfin.out.2.2, NR.refl _ _, by simp; omega⟩)
    | succ g =>
      have hku : k < ts.dropLast.length := by rw [HDL.out]; omega
      obtain ⟨u, hu⟩ : ∃ u, u = nth ts k := ⟨_, rfl⟩
      have hdr := tok_drop hku
      rw [← hu] at hdr
      have hcu : Cells4 wr b (o + 8 + k * 4) u := by
        have h1 := HT.out.tok (k + 2) (by simp; omega)
        rw [show o + (k + 2) * 4 = o + 8 + k * 4 by omega] at h1
        rw [hu]
        exact h1.below HV.out.bl lb
      obtain ⟨u0, u1, u2, u3⟩ := hcu
      have lbw : b < wr.heap.size := Nat.lt_of_lt_of_le lb HV.out.bl.size
      have hwu : u.w.length ≤ 1000 := by
        rw [hu, nth_get (by omega)]
        exact HT.out.lw _ (by simp)
      have hnu := fun W hP => name_any (bs u.w) W hP (by rw [bs_size]; omega)
      rw [bs_list] at hnu
      have HU := Lib.hid (And.intro hdr hu)
      clear hdr hu hku
      have hle := HV.out.le
      have h63 : sd.length + 1 ≤ maxLen := by unfold maxLen; omega
      have h24 : (sd.length + 1) * 24 ≤ 140737488355328 := by omega
      have lI := HV.out.li
      by_cases hk2 : u.k = 2
      · have hk3 : (u.k != 2) = false := by simpa using hk2
        have HO := Lib.hid (show ¬ (u.k ≠ 2 ∧ nameB u.w = false) from fun h => h.1 hk2)
        have H3 := Lib.hid (HV.out.box (up (.cells #[.int .i64 u.k, .int .i64 u.a, .string (bs u.w), .int .i64 u.n] 56)))
        have m2 : wr.cell? ⟨I, 2, none⟩ = some (.slice As sd.length cs) := by rw [cell_of_row _ _ _ _ _ _ HV.out.i]; rfl
        have m3 : wr.frozen? ⟨I, 2, none⟩ = false := frozen_of_row _ _ _ _ _ HV.out.i
        have lI2 := lI.2
        obtain ⟨uk, ua, uw, un⟩ := u
        obtain rfl : uk = 2 := hk2
        clear hk3 hnu
        by_cases h4 : sd.length = 4
        · have HRUN := Lib.hid (show sidesR ts.dropLast [] = .err ua 45 by rw [HV.out.run, HU.out.1, sidesR, if_neg HO.out, if_pos h4])
          have h4i : (sd.length : Int) = 4 := by omega
          clear h4
          go_wp2_with (first
            | (go_at_call 22; refine (fault_any ⟨2, ua, uw, un⟩ 45 _).mono ?_; rintro e w1 ⟨rfl, g1⟩; have h1 := (g1.below.block w.heap.size (heap_lt H3.out.f)).trans H3.out.f; have j0 : w1.cell? ⟨w.heap.size, 0, none⟩ = some (.int .i64 0) := (by rw [cell_of_row _ _ _ _ _ _ h1]; rfl); have j1 : w1.cell? ⟨w.heap.size, 1, none⟩ = some (.int .i64 0) := (by rw [cell_of_row _ _ _ _ _ _ h1]; rfl); have j2 := frozen_of_row _ _ 0 _ _ h1; have j3 := frozen_of_row _ _ 1 _ _ h1; clear h1; have G1 := Lib.hid g1; clear g1))
          exact bodyPost_ret (v := .agg #[.int .i64 ua, .int .i64 45]) (by simp [results, Tryz.results36, go_sem, j0, j1]) rfl (by rw [HX.out, HRUN.out]; exact ⟨rfl, (((below_fr H3.out.bl (PM P vi (.slice A ls.length ct))).gr G1.out).set (b := w.heap.size) (.inr (Nat.le_refl _)) 0 (.int .i64 ua)).set (b := w.heap.size) (.inr (Nat.le_refl _)) 1 (.int .i64 45)⟩)
        · have h4i : ¬ (sd.length : Int) = 4 := by omega
          have H4 := Lib.hid h4
          clear h4
          go_wp2_with (first
            | (at_builtin; refine wpList_append_lies _ rfl (.tmp 66) (.tmp 72) _ rfl (I + 1) 50 i2 _ 2 24 Tryz.underlying46 HI2.out.1 HI2.out.2.1 HI2.out.2.2.1 HI2.out.2.2.2 rfl (by omega) (.slice As sd.length cs) sd.length (sd.flatMap scell) rfl (H3.out.row.alloc _) ⟨wr.heap.size + 1, 0, none⟩ 1 1 (scell (uw, un)) rfl rfl (newsN _ _ (by simp) #[.string (bs uw), .int .i64 un] _) (by intro y hy; simp [scell] at hy; rcases hy with rfl | rfl <;> rfl) (by omega) h63 h24 (by simp; omega) (wr.heap.size + 1 + 1) (by simp) ?_; intro g2 cap w4 hown4 hgrow hat hlt4; have hI4 := ((hgrow.block I (by simp; omega) (fun e => by have := (row_base H3.out.row e.symm).1; omega)).trans (heap_alloc_old (wr.alloc _) _ H3.out.li.2)).trans H3.out.i; have y2 : w4.cell? ⟨I, 2, none⟩ = some (.slice As sd.length cs) := (by rw [cell_of_row _ _ _ _ _ _ hI4]; rfl); have y3 : w4.frozen? ⟨I, 2, none⟩ = false := frozen_of_row _ _ _ _ _ hI4; have HG := Lib.hid (H3.out.step HU.out.1 HO.out H4.out hgrow hown4); clear hI4 hgrow hown4 hat))
          go_roundg g
          case measure => omega
          case rel => exact ⟨k + 1, sd ++ [(uw, un)], _, cap, by omega, by go_num, HG⟩
      · have hk3 : (u.k != 2) = true := by simpa using hk2
        cases hnb : nameB u.w with
        | false =>
          rw [hnb] at hnu
          have HRUN := Lib.hid (show sidesR ts.dropLast [] = .err u.a 41 by rw [HV.out.run, HU.out.1, sidesR, if_pos ⟨hk2, hnb⟩])
          clear hk2 hnb
          go_wp2_with (first
            | (go_at_call 38; refine (hnu _ (hL.below (HV.out.bl.trans ((up _).mono HV.out.bl.size)))).mono ?_; rintro e w3 ⟨rfl, g3⟩; have hv3 := HV.out.box ((up _).trans (g3.mono (by simp))); have h3 := (g3.block wr.heap.size (by simp)).trans (heap_alloc_new wr (.cells #[.int .i64 u.k, .int .i64 u.a, .string (bs u.w), .int .i64 u.n] 56)); have q0 : w3.cell? ⟨wr.heap.size, 0, none⟩ = some (.int .i64 u.k) := (by rw [cell_of_row _ _ _ _ _ _ h3]; rfl); have q1 : w3.cell? ⟨wr.heap.size, 1, none⟩ = some (.int .i64 u.a) := (by rw [cell_of_row _ _ _ _ _ _ h3]; rfl); have q2 : w3.cell? ⟨wr.heap.size, 2, none⟩ = some (.string (bs u.w)) := (by rw [cell_of_row _ _ _ _ _ _ h3]; rfl); have q3 : w3.cell? ⟨wr.heap.size, 3, none⟩ = some (.int .i64 u.n) := (by rw [cell_of_row _ _ _ _ _ _ h3]; rfl); have H3 := Lib.hid hv3; clear g3 hv3 h3)
            | (go_at_call 22; refine (fault_any u 41 _).mono ?_; rintro e w1 ⟨rfl, g1⟩; have h1 := (g1.below.block w.heap.size (heap_lt H3.out.f)).trans H3.out.f; have j0 : w1.cell? ⟨w.heap.size, 0, none⟩ = some (.int .i64 0) := (by rw [cell_of_row _ _ _ _ _ _ h1]; rfl); have j1 : w1.cell? ⟨w.heap.size, 1, none⟩ = some (.int .i64 0) := (by rw [cell_of_row _ _ _ _ _ _ h1]; rfl); have j2 := frozen_of_row _ _ 0 _ _ h1; have j3 := frozen_of_row _ _ 1 _ _ h1; clear h1; have G1 := Lib.hid g1; clear g1))
          exact bodyPost_ret (v := .agg #[.int .i64 u.a, .int .i64 41]) (by simp [results, Tryz.results36, go_sem, j0, j1]) rfl (by rw [HX.out, HRUN.out]; exact ⟨rfl, (((below_fr H3.out.bl (PM P vi (.slice A ls.length ct))).gr G1.out).set (b := w.heap.size) (.inr (Nat.le_refl _)) 0 (.int .i64 u.a)).set (b := w.heap.size) (.inr (Nat.le_refl _)) 1 (.int .i64 41)⟩)
        | true =>
          rw [hnb] at hnu
          have HO := Lib.hid (show ¬ (u.k ≠ 2 ∧ nameB u.w = false) from fun h => by rw [hnb] at h; exact absurd h.2 (by decide))
          clear hk2 hnb
          by_cases h4 : sd.length = 4
          · have HRUN := Lib.hid (show sidesR ts.dropLast [] = .err u.a 45 by rw [HV.out.run, HU.out.1, sidesR, if_neg HO.out, if_pos h4])
            have h4i : (sd.length : Int) = 4 := by omega
            clear h4
            go_wp2_with (first
              | (go_at_call 38; refine (hnu _ (hL.below (HV.out.bl.trans ((up _).mono HV.out.bl.size)))).mono ?_; rintro e w3 ⟨rfl, g3⟩; have hv3 := HV.out.box ((up _).trans (g3.mono (by simp))); have h3 := (g3.block wr.heap.size (by simp)).trans (heap_alloc_new wr (.cells #[.int .i64 u.k, .int .i64 u.a, .string (bs u.w), .int .i64 u.n] 56)); have q0 : w3.cell? ⟨wr.heap.size, 0, none⟩ = some (.int .i64 u.k) := (by rw [cell_of_row _ _ _ _ _ _ h3]; rfl); have q1 : w3.cell? ⟨wr.heap.size, 1, none⟩ = some (.int .i64 u.a) := (by rw [cell_of_row _ _ _ _ _ _ h3]; rfl); have q2 : w3.cell? ⟨wr.heap.size, 2, none⟩ = some (.string (bs u.w)) := (by rw [cell_of_row _ _ _ _ _ _ h3]; rfl); have q3 : w3.cell? ⟨wr.heap.size, 3, none⟩ = some (.int .i64 u.n) := (by rw [cell_of_row _ _ _ _ _ _ h3]; rfl); have m2 : w3.cell? ⟨I, 2, none⟩ = some (.slice As sd.length cs) := (by rw [cell_of_row _ _ _ _ _ _ hv3.i]; rfl); have m3 : w3.frozen? ⟨I, 2, none⟩ = false := frozen_of_row _ _ _ _ _ hv3.i; have lI3 := hv3.li; have ls3 : wr.heap.size < w3.heap.size := (heap_lt h3); have H3 := Lib.hid hv3; clear g3 hv3 h3)
              | (go_at_call 22; refine (fault_any u 45 _).mono ?_; rintro e w1 ⟨rfl, g1⟩; have h1 := (g1.below.block w.heap.size (heap_lt H3.out.f)).trans H3.out.f; have j0 : w1.cell? ⟨w.heap.size, 0, none⟩ = some (.int .i64 0) := (by rw [cell_of_row _ _ _ _ _ _ h1]; rfl); have j1 : w1.cell? ⟨w.heap.size, 1, none⟩ = some (.int .i64 0) := (by rw [cell_of_row _ _ _ _ _ _ h1]; rfl); have j2 := frozen_of_row _ _ 0 _ _ h1; have j3 := frozen_of_row _ _ 1 _ _ h1; clear h1; have G1 := Lib.hid g1; clear g1))
            exact bodyPost_ret (v := .agg #[.int .i64 u.a, .int .i64 45]) (by simp [results, Tryz.results36, go_sem, j0, j1]) rfl (by rw [HX.out, HRUN.out]; exact ⟨rfl, (((below_fr H3.out.bl (PM P vi (.slice A ls.length ct))).gr G1.out).set (b := w.heap.size) (.inr (Nat.le_refl _)) 0 (.int .i64 u.a)).set (b := w.heap.size) (.inr (Nat.le_refl _)) 1 (.int .i64 45)⟩)
          · have h4i : ¬ (sd.length : Int) = 4 := by omega
            have H4 := Lib.hid h4
            clear h4
            go_wp2_with (first
              | (go_at_call 38; refine (hnu _ (hL.below (HV.out.bl.trans ((up _).mono HV.out.bl.size)))).mono ?_; rintro e w3 ⟨rfl, g3⟩; have hv3 := HV.out.box ((up _).trans (g3.mono (by simp))); have h3 := (g3.block wr.heap.size (by simp)).trans (heap_alloc_new wr (.cells #[.int .i64 u.k, .int .i64 u.a, .string (bs u.w), .int .i64 u.n] 56)); have q0 : w3.cell? ⟨wr.heap.size, 0, none⟩ = some (.int .i64 u.k) := (by rw [cell_of_row _ _ _ _ _ _ h3]; rfl); have q1 : w3.cell? ⟨wr.heap.size, 1, none⟩ = some (.int .i64 u.a) := (by rw [cell_of_row _ _ _ _ _ _ h3]; rfl); have q2 : w3.cell? ⟨wr.heap.size, 2, none⟩ = some (.string (bs u.w)) := (by rw [cell_of_row _ _ _ _ _ _ h3]; rfl); have q3 : w3.cell? ⟨wr.heap.size, 3, none⟩ = some (.int .i64 u.n) := (by rw [cell_of_row _ _ _ _ _ _ h3]; rfl); have m2 : w3.cell? ⟨I, 2, none⟩ = some (.slice As sd.length cs) := (by rw [cell_of_row _ _ _ _ _ _ hv3.i]; rfl); have m3 : w3.frozen? ⟨I, 2, none⟩ = false := frozen_of_row _ _ _ _ _ hv3.i; have lI3 := hv3.li; have ls3 : wr.heap.size < w3.heap.size := (heap_lt h3); have H3 := Lib.hid hv3; clear g3 hv3 h3)
              | (at_builtin; refine wpList_append_lies _ rfl (.tmp 66) (.tmp 72) _ rfl (I + 1) 50 i2 _ 2 24 Tryz.underlying46 HI2.out.1 HI2.out.2.1 HI2.out.2.2.1 HI2.out.2.2.2 rfl (by omega) (.slice As sd.length cs) sd.length (sd.flatMap scell) rfl (H3.out.row.alloc _) ⟨w3.heap.size, 0, none⟩ 1 1 (scell (u.w, u.n)) rfl rfl (newsN _ _ (by simp) #[.string (bs u.w), .int .i64 u.n] _) (by intro y hy; simp [scell] at hy; rcases hy with rfl | rfl <;> rfl) (by omega) h63 h24 (by simp; omega) (w3.heap.size + 1) (by simp) ?_; intro g2 cap w4 hown4 hgrow hat hlt4; have hI4 := ((hgrow.block I (by simp; omega) (fun e => by have := (row_base H3.out.row e.symm).1; omega)).trans (heap_alloc_old w3 _ H3.out.li.2)).trans H3.out.i; have y2 : w4.cell? ⟨I, 2, none⟩ = some (.slice As sd.length cs) := (by rw [cell_of_row _ _ _ _ _ _ hI4]; rfl); have y3 : w4.frozen? ⟨I, 2, none⟩ = false := frozen_of_row _ _ _ _ _ hI4; have HG := Lib.hid (H3.out.step HU.out.1 HO.out H4.out hgrow hown4); clear hI4 hgrow hown4 hat))
            go_roundg g
            case measure => omega
            case rel => exact ⟨k + 1, sd ++ [(u.w, u.n)], _, cap, by omega, by go_num, HG⟩
end Go.Proofs.YtbapgdhcbfpdoaaGreatDoor
/- Contract of package parse: add. Written by gen_k.py. -/
namespace Go.Proofs.YtbapgdhcbfpdoaaGreatDoor
open Go.RowKit
structure AP (w : World) (P : Nat) (xs : List NM) (ls : List LM) (vi vl : Value) (b o c : Nat) (f : Tk) (r : List Tk) : Prop where
  ps : PS w P xs ls vi vl
  tok : ∀ i, i < (f :: r).length → Cells4 w b (o + i * 4) (nth (f :: r) i)
  tb : ∃ cs fr, w.heap[b]? = some (.cells cs 56 fr)
  cap : r.length + 1 ≤ c
  len : r.length ≤ 100000
  lw : ∀ t ∈ f :: r, t.w.length ≤ 1000
  en : Ends (f :: r)
  laid : LaidP w
  cnt : xs.length + ls.length ≤ 64
theorem AP.lb {w : World} {P : Nat} {xs : List NM} {ls : List LM} {vi vl : Value} {b o c : Nat} {f : Tk} {r : List Tk} (h : AP w P xs ls vi vl b o c f r) : b < w.heap.size := by
  obtain ⟨cs, fr, e⟩ := h.tb
  exact heap_lt e
theorem PS.setF {w : World} {P : Nat} {xs : List NM} {ls : List LM} {vi vl : Value} (h : PS w P xs ls vi vl) {F : Nat} {cs : Array Value} {fr : Nat × Nat} (hF : w.heap[F]? = some (.cells cs 41 fr)) (j : Nat) (v : Value) : PS (w.setCell ⟨F, j, none⟩ v) P xs ls vi vl := by
  have hz : w.heap.size ≤ (w.setCell ⟨F, j, none⟩ v).heap.size := by simp
  have hne : ∀ {b : Nat} {cs' : Array Value} {T : TypeId} {fr' : Nat × Nat}, w.heap[b]? = some (.cells cs' T fr') → T ≠ 41 → (w.setCell ⟨F, j, none⟩ v).heap[b]? = w.heap[b]? := fun {b cs' T fr'} hb hT => Fr.set.heap_set_other (by
    rintro rfl
    rw [hF] at hb
    simp at hb
    exact hT hb.2.1.symm)
  have hrow : ∀ {base size n : Nat} {e : TypeId} {x : Value} {xs : List Value}, w.ownsRow base e size x n xs → e ≠ 41 → (w.setCell ⟨F, j, none⟩ v).ownsRow base e size x n xs := fun {base size n e x xs} hx he => ownsRow_setCell_other (a := ⟨F, j, none⟩) hx (fun e' => by
    obtain ⟨cur, hc⟩ := row_type hx e'
    rw [hF] at hc
    simp at hc
    exact he hc.2.1.symm) v
  exact ⟨(hne h.blk (by decide)).trans h.blk, hrow h.owi (by decide), hrow h.owl (by decide), fun m hm => ⟨RdI.grow (h.its m hm).1 hz fun _ _ _ _ hb hT => hne hb (by rcases hT with rfl | rfl <;> decide), (h.its m hm).2⟩, fun m hm => ⟨RdS.grow (h.sds m hm).1 hz fun _ _ _ hb => hne hb (by decide), (h.sds m hm).2⟩⟩
theorem NR.mono {n m : Nat} {a b : Value} (h : NR m a b) (hn : n ≤ m) : NR n a b := fun k hk => (h k hk).imp id fun e => by omega
theorem draw_b (w : World) (n : Nat) : Below w.heap.size w (w.drewN n) := below_drewN (Below.refl _ _) (Nat.le_refl _)
def endA : Ending → Option (Int × Int)
  | .returned (.agg #[.int .i64 a, .int .i64 c]) => some (a, c)
  | _ => none
/-- What a callee answered is handed on, through a variable of one's own. -/
theorem AddRes.up {w w0 w1 : World} {P : Nat} {xs : List NM} {ls : List LM} {vi vl : Value} {x : Pr} {a c : Int} (h : AddRes w0 P xs ls vi vl x (.returned (.agg #[.int .i64 a, .int .i64 c])) w1) (hb : Below w.heap.size w w0) {F : Nat} (hF0 : w.heap.size ≤ F) {cs : Array Value} (hF : w1.heap[F]? = some (.cells cs 41 (0, 0))) (v0 v1 : Value) :
    AddRes w P xs ls vi vl x (.returned (.agg #[.int .i64 a, .int .i64 c])) ((w1.setCell ⟨F, 0, none⟩ v0).setCell ⟨F, 1, none⟩ v1) := by
  cases x with
  | err a' c' => exact ⟨h.1, (((below_fr hb _).trans h.2).set (.inr hF0) _ _).set (.inr hF0) _ _⟩
  | ok q =>
    obtain ⟨h1, xs', ls', vi', vl', h2, h3, h4, h5, h6, h7⟩ := h
    exact ⟨h1, xs', ls', vi', vl', (h2.setF hF 0 v0).setF (heap_setCell_same _ _ _ _ _ _ hF) 1 v1, h3, (((below_fr hb _).trans h4).set (.inr hF0) _ _).set (.inr hF0) _ _, h5.mono hb.size, h6.mono hb.size, h7⟩
theorem AddRes.val {w w1 : World} {P : Nat} {xs : List NM} {ls : List LM} {vi vl : Value} {x : Pr} {e : Ending} (h : AddRes w P xs ls vi vl x e w1) : ∃ a c, e = .returned (.agg #[.int .i64 a, .int .i64 c]) ∧ Fr (PM P vi vl) w w1 := by
  cases x with
  | err a' c' => exact ⟨a', c', h.1, h.2⟩
  | ok q =>
    obtain ⟨h1, _, _, _, _, _, _, h4, _⟩ := h
    exact ⟨0, 0, h1, h4⟩
set_option maxRecDepth 100000 in
set_option maxHeartbeats 3200000 in
theorem add_end (w : World) (P : Nat) (xs : List NM) (ls : List LM) (vi vl : Value) (b o c : Nat) (f : Tk) (r : List Tk) (h : AP w P xs ls vi vl b o c f r) (hk : f.k = 4) :
    Calls Tryz.prog 20 #[.pointer (some ⟨P, 0, none⟩), .slice (some ⟨b, o, none⟩) (r.length + 1) c] w (AddRes w P xs ls vi vl (addR (pgOf xs ls) (f :: r))) := by
  have HA := Lib.hid h
  obtain ⟨d0, d1, df⟩ := h.ps.cells
  have hPl := h.ps.lt
  have hPl1 : P < w.heap.size + 1 := by omega
  have hf := h.tok 0 (by simp)
  rw [Nat.zero_mul, Nat.add_zero] at hf
  obtain ⟨f0, f1, f2, f3⟩ : Cells4 w b o f := hf
  have lb : b < w.heap.size := h.lb
  have lb1 : b < w.heap.size + 1 := by omega
  have hnm := fun W hP => name_any (bs f.w) W hP (by rw [bs_size]; have := h.lw f (by simp); omega)
  rw [bs_list] at hnm
  have hcap := h.cap
  have hlen := h.len
  have hn := h.cnt
  have hL := h.laid
  have HB0 := Lib.hid (ft_below w f)
  have hs0 := h.ps.keep (ft_below w f)
  have hcm := fun W (hs : PS W P xs ls vi vl) => complete_any W P xs ls vi vl hs (by omega)
  obtain ⟨Ai, ci, rfl, hci⟩ := row_shape h.ps.owi
  obtain ⟨Al, cl, rfl, hcl⟩ := row_shape h.ps.owl
  have hpl : (pgOf xs ls).ins.length + (pgOf xs ls).lns.length = xs.length + ls.length := by simp [pgOf]
  have HS0 := Lib.hid hs0
  clear h hs0 df
  have HX := Lib.hid (show addR (pgOf xs ls) (f :: r) = .ok (pgOf xs ls) by unfold addR; simp only; rw [if_pos hk])
  obtain ⟨fk, fa, fw, fn⟩ := f
  obtain rfl : fk = 4 := hk
  clear hnm hcm
  go_enter Tryz.func20, Tryz.ntmps20
  go_wp2
  exact bodyPost_ret (v := .agg #[.int .i64 0, .int .i64 0]) (by simp [results, Tryz.results20, go_sem]) rfl (by rw [HX.out]; exact ⟨rfl, xs, ls, _, _, HS0.out, rfl, below_fr HB0.out _, NR.refl _ _, NR.refl _ _, by omega⟩)
set_option maxRecDepth 100000 in
set_option maxHeartbeats 3200000 in
theorem add_many (w : World) (P : Nat) (xs : List NM) (ls : List LM) (vi vl : Value) (b o c : Nat) (f : Tk) (r : List Tk) (h : AP w P xs ls vi vl b o c f r) (hk : f.k ≠ 4) (hm : xs.length + ls.length = 64) :
    Calls Tryz.prog 20 #[.pointer (some ⟨P, 0, none⟩), .slice (some ⟨b, o, none⟩) (r.length + 1) c] w (AddRes w P xs ls vi vl (addR (pgOf xs ls) (f :: r))) := by
  have HA := Lib.hid h
  obtain ⟨d0, d1, df⟩ := h.ps.cells
  have hPl := h.ps.lt
  have hPl1 : P < w.heap.size + 1 := by omega
  have hf := h.tok 0 (by simp)
  rw [Nat.zero_mul, Nat.add_zero] at hf
  obtain ⟨f0, f1, f2, f3⟩ : Cells4 w b o f := hf
  have lb : b < w.heap.size := h.lb
  have lb1 : b < w.heap.size + 1 := by omega
  have hnm := fun W hP => name_any (bs f.w) W hP (by rw [bs_size]; have := h.lw f (by simp); omega)
  rw [bs_list] at hnm
  have hcap := h.cap
  have hlen := h.len
  have hn := h.cnt
  have hL := h.laid
  have HB0 := Lib.hid (ft_below w f)
  have hs0 := h.ps.keep (ft_below w f)
  have hcm := fun W (hs : PS W P xs ls vi vl) => complete_any W P xs ls vi vl hs (by omega)
  obtain ⟨Ai, ci, rfl, hci⟩ := row_shape h.ps.owi
  obtain ⟨Al, cl, rfl, hcl⟩ := row_shape h.ps.owl
  have hpl : (pgOf xs ls).ins.length + (pgOf xs ls).lns.length = xs.length + ls.length := by simp [pgOf]
  have HS0 := Lib.hid hs0
  clear h hs0 df
  have HX := Lib.hid (show addR (pgOf xs ls) (f :: r) = .err f.a 45 by unfold addR; simp only; rw [if_neg hk, if_pos (by rw [hpl]; exact hm)])
  have hk2 : (f.k == 4) = false := by simpa using hk
  have hm2 : (xs.length : Int) + (ls.length : Int) = 64 := by omega
  clear hk hm hnm hcm hpl hn
  go_enter Tryz.func20, Tryz.ntmps20
  go_wp2
  go_quiet (fail)
  go_wp2_with (go_at_call 22; refine (fault_any f 45 _).mono ?_; rintro e w1 ⟨rfl, g1⟩; have h1 := (g1.below.block w.heap.size (by first | omega | (simp; omega) | simp)).trans (box1 w (.cells #[.int .i64 0, .int .i64 0] 41) (.cells #[.int .i64 f.k, .int .i64 f.a, .string (bs f.w), .int .i64 f.n] 56)); have j0 : w1.cell? ⟨w.heap.size, 0, none⟩ = some (.int .i64 0) := (by rw [cell_of_row _ _ _ _ _ _ h1]; rfl); have j1 : w1.cell? ⟨w.heap.size, 1, none⟩ = some (.int .i64 0) := (by rw [cell_of_row _ _ _ _ _ _ h1]; rfl); have j2 := frozen_of_row _ _ 0 _ _ h1; have j3 := frozen_of_row _ _ 1 _ _ h1; have H1 := Lib.hid h1; clear h1; have G1 := Lib.hid g1; clear g1)
  exact bodyPost_ret (v := .agg #[.int .i64 f.a, .int .i64 45]) (by simp [results, Tryz.results20, go_sem, j0, j1]) rfl (by rw [HX.out]; exact ⟨rfl, ((((below_fr HB0.out _).drewN _).gr G1.out).set (b := w.heap.size) (.inr (Nat.le_refl _)) 0 (.int .i64 f.a)).set (b := w.heap.size) (.inr (Nat.le_refl _)) 1 (.int .i64 45)⟩)
set_option maxRecDepth 100000 in
set_option maxHeartbeats 3200000 in
theorem add_long (w : World) (P : Nat) (xs : List NM) (ls : List LM) (vi vl : Value) (b o c : Nat) (f : Tk) (r : List Tk) (h : AP w P xs ls vi vl b o c f r) (hk : f.k ≠ 4) (hm : xs.length + ls.length ≠ 64) (hl : 256 < r.length) :
    Calls Tryz.prog 20 #[.pointer (some ⟨P, 0, none⟩), .slice (some ⟨b, o, none⟩) (r.length + 1) c] w (AddRes w P xs ls vi vl (addR (pgOf xs ls) (f :: r))) := by
  have HA := Lib.hid h
  obtain ⟨d0, d1, df⟩ := h.ps.cells
  have hPl := h.ps.lt
  have hPl1 : P < w.heap.size + 1 := by omega
  have hf := h.tok 0 (by simp)
  rw [Nat.zero_mul, Nat.add_zero] at hf
  obtain ⟨f0, f1, f2, f3⟩ : Cells4 w b o f := hf
  have lb : b < w.heap.size := h.lb
  have lb1 : b < w.heap.size + 1 := by omega
  have hnm := fun W hP => name_any (bs f.w) W hP (by rw [bs_size]; have := h.lw f (by simp); omega)
  rw [bs_list] at hnm
  have hcap := h.cap
  have hlen := h.len
  have hn := h.cnt
  have hL := h.laid
  have HB0 := Lib.hid (ft_below w f)
  have hs0 := h.ps.keep (ft_below w f)
  have hcm := fun W (hs : PS W P xs ls vi vl) => complete_any W P xs ls vi vl hs (by omega)
  obtain ⟨Ai, ci, rfl, hci⟩ := row_shape h.ps.owi
  obtain ⟨Al, cl, rfl, hcl⟩ := row_shape h.ps.owl
  have hpl : (pgOf xs ls).ins.length + (pgOf xs ls).lns.length = xs.length + ls.length := by simp [pgOf]
  have HS0 := Lib.hid hs0
  clear h hs0 df
  have HX := Lib.hid (show addR (pgOf xs ls) (f :: r) = .err (nth (f :: r) 256).a 45 by unfold addR; simp only; rw [if_neg hk, if_neg (by rw [hpl]; exact hm), if_pos hl]; rfl)
  have hk2 : (f.k == 4) = false := by simpa using hk
  have hm2 : ¬ (xs.length : Int) + (ls.length : Int) = 64 := by omega
  have hl2 : (256 : Int) < (r.length : Int) := by omega
  obtain ⟨u0, u1, u2, u3⟩ : Cells4 w b (o + 1024) (nth (f :: r) 256) := HA.out.tok 256 (by simp; omega)
  obtain ⟨u, hu⟩ : ∃ u, u = nth (f :: r) 256 := ⟨_, rfl⟩
  rw [← hu] at u0 u1 u2 u3 HX
  clear hu
  clear hk hm hnm hcm hpl hl
  go_enter Tryz.func20, Tryz.ntmps20
  go_wp2
  go_quiet (fail)
  go_wp2_with (go_at_call 22; refine (fault_any u 45 _).mono ?_; rintro e w1 ⟨rfl, g1⟩; have h1 := (g1.below.block w.heap.size (by first | omega | (simp; omega) | simp)).trans (box1 w (.cells #[.int .i64 0, .int .i64 0] 41) (.cells #[.int .i64 f.k, .int .i64 f.a, .string (bs f.w), .int .i64 f.n] 56)); have j0 : w1.cell? ⟨w.heap.size, 0, none⟩ = some (.int .i64 0) := (by rw [cell_of_row _ _ _ _ _ _ h1]; rfl); have j1 : w1.cell? ⟨w.heap.size, 1, none⟩ = some (.int .i64 0) := (by rw [cell_of_row _ _ _ _ _ _ h1]; rfl); have j2 := frozen_of_row _ _ 0 _ _ h1; have j3 := frozen_of_row _ _ 1 _ _ h1; have H1 := Lib.hid h1; clear h1; have G1 := Lib.hid g1; clear g1)
  exact bodyPost_ret (v := .agg #[.int .i64 u.a, .int .i64 45]) (by simp [results, Tryz.results20, go_sem, j0, j1]) rfl (by rw [HX.out]; exact ⟨rfl, ((((below_fr HB0.out _).drewN _).gr G1.out).set (b := w.heap.size) (.inr (Nat.le_refl _)) 0 (.int .i64 u.a)).set (b := w.heap.size) (.inr (Nat.le_refl _)) 1 (.int .i64 45)⟩)
set_option maxRecDepth 100000 in
set_option maxHeartbeats 3200000 in
theorem add_over (w : World) (P : Nat) (xs : List NM) (ls : List LM) (vi vl : Value) (b o c : Nat) (f : Tk) (r : List Tk) (h : AP w P xs ls vi vl b o c f r) (hk : f.k ≠ 4) (hm : xs.length + ls.length ≠ 64) (hl : ¬ 256 < r.length) (hc : compl (pgOf xs ls) = true) :
    Calls Tryz.prog 20 #[.pointer (some ⟨P, 0, none⟩), .slice (some ⟨b, o, none⟩) (r.length + 1) c] w (AddRes w P xs ls vi vl (addR (pgOf xs ls) (f :: r))) := by
  have HA := Lib.hid h
  obtain ⟨d0, d1, df⟩ := h.ps.cells
  have hPl := h.ps.lt
  have hPl1 : P < w.heap.size + 1 := by omega
  have hf := h.tok 0 (by simp)
  rw [Nat.zero_mul, Nat.add_zero] at hf
  obtain ⟨f0, f1, f2, f3⟩ : Cells4 w b o f := hf
  have lb : b < w.heap.size := h.lb
  have lb1 : b < w.heap.size + 1 := by omega
  have hnm := fun W hP => name_any (bs f.w) W hP (by rw [bs_size]; have := h.lw f (by simp); omega)
  rw [bs_list] at hnm
  have hcap := h.cap
  have hlen := h.len
  have hn := h.cnt
  have hL := h.laid
  have HB0 := Lib.hid (ft_below w f)
  have hs0 := h.ps.keep (ft_below w f)
  have hcm := fun W (hs : PS W P xs ls vi vl) => complete_any W P xs ls vi vl hs (by omega)
  obtain ⟨Ai, ci, rfl, hci⟩ := row_shape h.ps.owi
  obtain ⟨Al, cl, rfl, hcl⟩ := row_shape h.ps.owl
  have hpl : (pgOf xs ls).ins.length + (pgOf xs ls).lns.length = xs.length + ls.length := by simp [pgOf]
  have HS0 := Lib.hid hs0
  clear h hs0 df
  have HX := Lib.hid (show addR (pgOf xs ls) (f :: r) = .err f.a 40 by unfold addR; simp only; rw [if_neg hk, if_neg (by rw [hpl]; exact hm), if_neg hl, if_pos hc])
  rw [hc] at hcm
  have hk2 : (f.k == 4) = false := by simpa using hk
  have hm2 : ¬ (xs.length : Int) + (ls.length : Int) = 64 := by omega
  have hl2 : ¬ (256 : Int) < (r.length : Int) := by omega
  clear hk hm hnm hpl hl hc
  go_enter Tryz.func20, Tryz.ntmps20
  go_wp2
  go_quiet (fail)
  go_wp2_with (first | (go_at_call 21; refine (hcm _ (HS0.out.keep (draw_b _ _))).mono ?_; rintro e w2 ⟨rfl, g2⟩; have hb2 := HB0.out.trans ((draw_b _ _).trans (g2.below.mono (draw_b _ _).size) |>.mono HB0.out.size); have h2 := (g2.below.block w.heap.size (by first | omega | (simp; omega) | simp)).trans (box1 w (.cells #[.int .i64 0, .int .i64 0] 41) (.cells #[.int .i64 f.k, .int .i64 f.a, .string (bs f.w), .int .i64 f.n] 56)); have h3 := (g2.below.block (w.heap.size + 1) (by first | omega | (simp; omega) | simp)).trans (box2 w (.cells #[.int .i64 0, .int .i64 0] 41) (.cells #[.int .i64 f.k, .int .i64 f.a, .string (bs f.w), .int .i64 f.n] 56)); have s0 : w2.cell? ⟨w.heap.size + 1, 0, none⟩ = some (.int .i64 f.k) := (by rw [cell_of_row _ _ _ _ _ _ h3]; rfl); have s1 : w2.cell? ⟨w.heap.size + 1, 1, none⟩ = some (.int .i64 f.a) := (by rw [cell_of_row _ _ _ _ _ _ h3]; rfl); have s2 : w2.cell? ⟨w.heap.size + 1, 2, none⟩ = some (.string (bs f.w)) := (by rw [cell_of_row _ _ _ _ _ _ h3]; rfl); have s3 : w2.cell? ⟨w.heap.size + 1, 3, none⟩ = some (.int .i64 f.n) := (by rw [cell_of_row _ _ _ _ _ _ h3]; rfl); have ls3 := heap_lt h3; have H2 := Lib.hid (And.intro hb2 (And.intro h2 h3)); clear g2 h2 h3 hb2) | (go_at_call 22; refine (fault_any f 40 _).mono ?_; rintro e w1 ⟨rfl, g1⟩; have h1 := (g1.below.block w.heap.size (heap_lt H2.out.2.1)).trans H2.out.2.1; have j0 : w1.cell? ⟨w.heap.size, 0, none⟩ = some (.int .i64 0) := (by rw [cell_of_row _ _ _ _ _ _ h1]; rfl); have j1 : w1.cell? ⟨w.heap.size, 1, none⟩ = some (.int .i64 0) := (by rw [cell_of_row _ _ _ _ _ _ h1]; rfl); have j2 := frozen_of_row _ _ 0 _ _ h1; have j3 := frozen_of_row _ _ 1 _ _ h1; have H1 := Lib.hid h1; clear h1; have G1 := Lib.hid g1; clear g1))
  exact bodyPost_ret (v := .agg #[.int .i64 f.a, .int .i64 40]) (by simp [results, Tryz.results20, go_sem, j0, j1]) rfl (by rw [HX.out]; exact ⟨rfl, (((below_fr H2.out.1 _).gr G1.out).set (b := w.heap.size) (.inr (Nat.le_refl _)) 0 (.int .i64 f.a)).set (b := w.heap.size) (.inr (Nat.le_refl _)) 1 (.int .i64 40)⟩)
end Go.Proofs.YtbapgdhcbfpdoaaGreatDoor
/- Contract of package parse: add, its calls. Written by gen_k2.py. -/
namespace Go.Proofs.YtbapgdhcbfpdoaaGreatDoor
open Go.RowKit
theorem addInput_any (w : World) (P : Nat) (xs : List NM) (ls : List LM) (vi vl : Value) (h : PS w P xs ls vi vl) (b o c : Nat) (f : Tk) (r : List Tk) (hT : TR w b o c (f :: r)) (hE : Ends r) (hL : LaidP w) (hn : xs.length + ls.length ≤ 64) :
    Calls Tryz.prog 36 #[.pointer (some ⟨P, 0, none⟩), .slice (some ⟨b, o, none⟩) (r.length + 1) c] w (AddRes w P xs ls vi vl (addInR (pgOf xs ls) f r)) := by
  cases r with
  | nil => exact hE.elim
  | cons t ts =>
    by_cases hb : 0 < ls.length ∨ t.k = 4 ∨ nameB t.w = false
    · exact addInput_bad w P xs ls vi vl h b o c f t ts hT hL (by omega) hb
    · have h1 : ls.length = 0 := by
        rcases Nat.eq_zero_or_pos ls.length with e | e
        · exact e
        · exact (hb (.inl e)).elim
      have h2 : t.k ≠ 4 := fun e => hb (.inr (.inl e))
      have h3 : nameB t.w = true := by
        cases e : nameB t.w with
        | true => rfl
        | false => exact (hb (.inr (.inr e))).elim
      exact addInput_ok w P xs ls vi vl h b o c f t ts hT (hE.next fun e => h2 e.1) hL (by omega) h1 h2 h3
theorem AP.tr {w w2 : World} {P : Nat} {xs : List NM} {ls : List LM} {vi vl : Value} {b o c : Nat} {f : Tk} {r : List Tk} (h : AP w P xs ls vi vl b o c f r) (hl : ¬ 256 < r.length) (hb : Below w.heap.size w w2) : TR w2 b o c (f :: r) :=
  TR.below ⟨h.tok, h.tb, by simpa using h.cap, by simp; omega, h.lw⟩ hb
theorem TR.tail {w : World} {b o c : Nat} {f : Tk} {r : List Tk} (h : TR w b o c (f :: r)) : TR w b (o + 4) (c - 1) r := by
  have hc := h.cap
  have hl := h.len
  simp only [List.length_cons] at hc hl
  refine ⟨fun i hi => ?_, h.tb, by omega, by omega, fun t ht => h.lw t (by simp [ht])⟩
  have := h.tok (i + 1) (by simp; omega)
  rw [nth_cons_succ, show o + (i + 1) * 4 = o + 4 + i * 4 by omega] at this
  exact this
set_option maxRecDepth 100000 in
set_option maxHeartbeats 3200000 in
theorem add_in (w : World) (P : Nat) (xs : List NM) (ls : List LM) (vi vl : Value) (b o c : Nat) (f : Tk) (r : List Tk) (h : AP w P xs ls vi vl b o c f r) (hk : f.k ≠ 4) (hm : xs.length + ls.length ≠ 64) (hl : ¬ 256 < r.length) (hc : compl (pgOf xs ls) = false) (hw : f.w = [105, 110]) :
    Calls Tryz.prog 20 #[.pointer (some ⟨P, 0, none⟩), .slice (some ⟨b, o, none⟩) (r.length + 1) c] w (AddRes w P xs ls vi vl (addR (pgOf xs ls) (f :: r))) := by
  have HA := Lib.hid h
  obtain ⟨d0, d1, df⟩ := h.ps.cells
  have hPl := h.ps.lt
  have hPl1 : P < w.heap.size + 1 := by omega
  have hf := h.tok 0 (by simp)
  rw [Nat.zero_mul, Nat.add_zero] at hf
  obtain ⟨f0, f1, f2, f3⟩ : Cells4 w b o f := hf
  have lb : b < w.heap.size := h.lb
  have lb1 : b < w.heap.size + 1 := by omega
  have hnm := fun W hP => name_any (bs f.w) W hP (by rw [bs_size]; have := h.lw f (by simp); omega)
  rw [bs_list] at hnm
  have hcap := h.cap
  have hlen := h.len
  have hn := h.cnt
  have hL := h.laid
  have HB0 := Lib.hid (ft_below w f)
  have hs0 := h.ps.keep (ft_below w f)
  have hcm := fun W (hs : PS W P xs ls vi vl) => complete_any W P xs ls vi vl hs (by omega)
  obtain ⟨Ai, ci, rfl, hci⟩ := row_shape h.ps.owi
  obtain ⟨Al, cl, rfl, hcl⟩ := row_shape h.ps.owl
  have hpl : (pgOf xs ls).ins.length + (pgOf xs ls).lns.length = xs.length + ls.length := by simp [pgOf]
  have HS0 := Lib.hid hs0
  clear h hs0 df
  have HX := Lib.hid (show addR (pgOf xs ls) (f :: r) = addInR (pgOf xs ls) f r by unfold addR; simp only; rw [if_neg hk, if_neg (by rw [hpl]; exact hm), if_neg hl, if_neg (by rw [hc]; exact Bool.false_ne_true), if_pos hw])
  rw [hc] at hcm
  have hk2 : (f.k == 4) = false := by simpa using hk
  have hm2 : ¬ (xs.length : Int) + (ls.length : Int) = 64 := by omega
  have hl2 : ¬ (256 : Int) < (r.length : Int) := by omega
  have hnp : ¬ PM P (.slice Ai xs.length ci) (.slice Al ls.length cl) w.heap.size := fun hk => by have := (HA.out.ps.base _ hk).2; omega
  have HNP := Lib.hid hnp
  have HK := Lib.hid (And.intro hk hl)
  have x1 := cmpYes hw
  clear hk hm hnm hpl hl hc hw hnp
  go_enter Tryz.func20, Tryz.ntmps20
  go_wp2
  go_quiet (fail)
  go_wp2_with (first | (go_at_call 21; refine (hcm _ (HS0.out.keep (draw_b _ _))).mono ?_; rintro e w2 ⟨rfl, g2⟩; have hb2 := HB0.out.trans ((draw_b _ _).trans (g2.below.mono (draw_b _ _).size) |>.mono HB0.out.size); have h2 := (g2.below.block w.heap.size (by first | omega | (simp; omega) | simp)).trans (box1 w (.cells #[.int .i64 0, .int .i64 0] 41) (.cells #[.int .i64 f.k, .int .i64 f.a, .string (bs f.w), .int .i64 f.n] 56)); have h3 := (g2.below.block (w.heap.size + 1) (by first | omega | (simp; omega) | simp)).trans (box2 w (.cells #[.int .i64 0, .int .i64 0] 41) (.cells #[.int .i64 f.k, .int .i64 f.a, .string (bs f.w), .int .i64 f.n] 56)); have s0 : w2.cell? ⟨w.heap.size + 1, 0, none⟩ = some (.int .i64 f.k) := (by rw [cell_of_row _ _ _ _ _ _ h3]; rfl); have s1 : w2.cell? ⟨w.heap.size + 1, 1, none⟩ = some (.int .i64 f.a) := (by rw [cell_of_row _ _ _ _ _ _ h3]; rfl); have s2 : w2.cell? ⟨w.heap.size + 1, 2, none⟩ = some (.string (bs f.w)) := (by rw [cell_of_row _ _ _ _ _ _ h3]; rfl); have s3 : w2.cell? ⟨w.heap.size + 1, 3, none⟩ = some (.int .i64 f.n) := (by rw [cell_of_row _ _ _ _ _ _ h3]; rfl); have ls3 := heap_lt h3; have H2 := Lib.hid (And.intro hb2 (And.intro h2 h3)); clear g2 h2 h3 hb2) | (go_at_call 36; refine (addInput_any w2 P xs ls _ _ (HA.out.ps.keep H2.out.1) b o c f r (HA.out.tr HK.out.2 H2.out.1) (HA.out.en.next (fun e => HK.out.1 e.1)) (hL.below H2.out.1) hn).mono ?_; rintro e w3 hres; obtain ⟨ra, rc, rfl, hfr⟩ := hres.val; have h3 := (hfr.block w.heap.size (heap_lt H2.out.2.1) HNP.out).trans H2.out.2.1; have j0 : w3.cell? ⟨w.heap.size, 0, none⟩ = some (.int .i64 0) := (by rw [cell_of_row _ _ _ _ _ _ h3]; rfl); have j1 : w3.cell? ⟨w.heap.size, 1, none⟩ = some (.int .i64 0) := (by rw [cell_of_row _ _ _ _ _ _ h3]; rfl); have j2 : w3.frozen? ⟨w.heap.size, 0, none⟩ = false := frozen_of_row _ _ _ _ _ h3; have j3 : w3.frozen? ⟨w.heap.size, 1, none⟩ = false := frozen_of_row _ _ _ _ _ h3; have HR := Lib.hid (And.intro hres h3); clear hres hfr h3))
  exact bodyPost_ret (v := .agg #[.int .i64 ra, .int .i64 rc]) (by simp [results, Tryz.results20, go_sem, j0, j1]) rfl (by rw [HX.out]; exact HR.out.1.up H2.out.1 (Nat.le_refl _) HR.out.2 _ _)
set_option maxRecDepth 100000 in
set_option maxHeartbeats 3200000 in
theorem add_noname (w : World) (P : Nat) (xs : List NM) (ls : List LM) (vi vl : Value) (b o c : Nat) (f : Tk) (r : List Tk) (h : AP w P xs ls vi vl b o c f r) (hk : f.k ≠ 4) (hm : xs.length + ls.length ≠ 64) (hl : ¬ 256 < r.length) (hc : compl (pgOf xs ls) = false) (hw1 : ¬ f.w = [105, 110]) (hw2 : ¬ f.w = [111, 117, 116]) (hx : nameB f.w = false) :
    Calls Tryz.prog 20 #[.pointer (some ⟨P, 0, none⟩), .slice (some ⟨b, o, none⟩) (r.length + 1) c] w (AddRes w P xs ls vi vl (addR (pgOf xs ls) (f :: r))) := by
  have HA := Lib.hid h
  obtain ⟨d0, d1, df⟩ := h.ps.cells
  have hPl := h.ps.lt
  have hPl1 : P < w.heap.size + 1 := by omega
  have hf := h.tok 0 (by simp)
  rw [Nat.zero_mul, Nat.add_zero] at hf
  obtain ⟨f0, f1, f2, f3⟩ : Cells4 w b o f := hf
  have lb : b < w.heap.size := h.lb
  have lb1 : b < w.heap.size + 1 := by omega
  have hnm := fun W hP => name_any (bs f.w) W hP (by rw [bs_size]; have := h.lw f (by simp); omega)
  rw [bs_list] at hnm
  have hcap := h.cap
  have hlen := h.len
  have hn := h.cnt
  have hL := h.laid
  have HB0 := Lib.hid (ft_below w f)
  have hs0 := h.ps.keep (ft_below w f)
  have hcm := fun W (hs : PS W P xs ls vi vl) => complete_any W P xs ls vi vl hs (by omega)
  obtain ⟨Ai, ci, rfl, hci⟩ := row_shape h.ps.owi
  obtain ⟨Al, cl, rfl, hcl⟩ := row_shape h.ps.owl
  have hpl : (pgOf xs ls).ins.length + (pgOf xs ls).lns.length = xs.length + ls.length := by simp [pgOf]
  have HS0 := Lib.hid hs0
  clear h hs0 df
  have HX := Lib.hid (show addR (pgOf xs ls) (f :: r) = .err f.a 40 by unfold addR; simp only; rw [if_neg hk, if_neg (by rw [hpl]; exact hm), if_neg hl, if_neg (by rw [hc]; exact Bool.false_ne_true), if_neg hw1, if_neg hw2, if_pos hx])
  rw [hx] at hnm
  rw [hc] at hcm
  have hk2 : (f.k == 4) = false := by simpa using hk
  have hm2 : ¬ (xs.length : Int) + (ls.length : Int) = 64 := by omega
  have hl2 : ¬ (256 : Int) < (r.length : Int) := by omega
  have hnp : ¬ PM P (.slice Ai xs.length ci) (.slice Al ls.length cl) w.heap.size := fun hk => by have := (HA.out.ps.base _ hk).2; omega
  have HNP := Lib.hid hnp
  have HK := Lib.hid (And.intro hk hl)
  have x1 := cmpNo hw1
  have x2 := cmpNo hw2
  clear hk hm hpl hl hc hw1 hw2 hnp hx
  go_enter Tryz.func20, Tryz.ntmps20
  go_wp2
  go_quiet (fail)
  go_wp2_with (first | (go_at_call 21; refine (hcm _ (HS0.out.keep (draw_b _ _))).mono ?_; rintro e w2 ⟨rfl, g2⟩; have hb2 := HB0.out.trans ((draw_b _ _).trans (g2.below.mono (draw_b _ _).size) |>.mono HB0.out.size); have h2 := (g2.below.block w.heap.size (by first | omega | (simp; omega) | simp)).trans (box1 w (.cells #[.int .i64 0, .int .i64 0] 41) (.cells #[.int .i64 f.k, .int .i64 f.a, .string (bs f.w), .int .i64 f.n] 56)); have h3 := (g2.below.block (w.heap.size + 1) (by first | omega | (simp; omega) | simp)).trans (box2 w (.cells #[.int .i64 0, .int .i64 0] 41) (.cells #[.int .i64 f.k, .int .i64 f.a, .string (bs f.w), .int .i64 f.n] 56)); have s0 : w2.cell? ⟨w.heap.size + 1, 0, none⟩ = some (.int .i64 f.k) := (by rw [cell_of_row _ _ _ _ _ _ h3]; rfl); have s1 : w2.cell? ⟨w.heap.size + 1, 1, none⟩ = some (.int .i64 f.a) := (by rw [cell_of_row _ _ _ _ _ _ h3]; rfl); have s2 : w2.cell? ⟨w.heap.size + 1, 2, none⟩ = some (.string (bs f.w)) := (by rw [cell_of_row _ _ _ _ _ _ h3]; rfl); have s3 : w2.cell? ⟨w.heap.size + 1, 3, none⟩ = some (.int .i64 f.n) := (by rw [cell_of_row _ _ _ _ _ _ h3]; rfl); have ls3 := heap_lt h3; have H2 := Lib.hid (And.intro hb2 (And.intro h2 h3)); clear g2 h2 h3 hb2) | (go_at_call 38; refine (hnm _ (hL.below H2.out.1)).mono ?_; rintro e w4 ⟨rfl, g4⟩; have hb4 := H2.out.1.trans (g4.mono H2.out.1.size); have h4 := (g4.block w.heap.size (heap_lt H2.out.2.1)).trans H2.out.2.1; have h5 := (g4.block (w.heap.size + 1) (heap_lt H2.out.2.2)).trans H2.out.2.2; have v0 : w4.cell? ⟨w.heap.size + 1, 0, none⟩ = some (.int .i64 f.k) := (by rw [cell_of_row _ _ _ _ _ _ h5]; rfl); have v1 : w4.cell? ⟨w.heap.size + 1, 1, none⟩ = some (.int .i64 f.a) := (by rw [cell_of_row _ _ _ _ _ _ h5]; rfl); have v2 : w4.cell? ⟨w.heap.size + 1, 2, none⟩ = some (.string (bs f.w)) := (by rw [cell_of_row _ _ _ _ _ _ h5]; rfl); have v3 : w4.cell? ⟨w.heap.size + 1, 3, none⟩ = some (.int .i64 f.n) := (by rw [cell_of_row _ _ _ _ _ _ h5]; rfl); have H4 := Lib.hid (And.intro hb4 (And.intro h4 h5)); clear g4 h4 h5 hb4) | (go_at_call 22; refine (fault_any f 40 _).mono ?_; rintro e w1 ⟨rfl, g1⟩; have h1 := (g1.below.block w.heap.size (heap_lt H4.out.2.1)).trans H4.out.2.1; have j0 : w1.cell? ⟨w.heap.size, 0, none⟩ = some (.int .i64 0) := (by rw [cell_of_row _ _ _ _ _ _ h1]; rfl); have j1 : w1.cell? ⟨w.heap.size, 1, none⟩ = some (.int .i64 0) := (by rw [cell_of_row _ _ _ _ _ _ h1]; rfl); have j2 := frozen_of_row _ _ 0 _ _ h1; have j3 := frozen_of_row _ _ 1 _ _ h1; have H1 := Lib.hid h1; clear h1; have G1 := Lib.hid g1; clear g1))
  exact bodyPost_ret (v := .agg #[.int .i64 f.a, .int .i64 40]) (by simp [results, Tryz.results20, go_sem, j0, j1]) rfl (by rw [HX.out]; exact ⟨rfl, (((below_fr H4.out.1 _).gr G1.out).set (b := w.heap.size) (.inr (Nat.le_refl _)) 0 (.int .i64 f.a)).set (b := w.heap.size) (.inr (Nat.le_refl _)) 1 (.int .i64 40)⟩)
set_option maxRecDepth 100000 in
set_option maxHeartbeats 3200000 in
theorem add_nocolon (w : World) (P : Nat) (xs : List NM) (ls : List LM) (vi vl : Value) (b o c : Nat) (f : Tk) (r : List Tk) (h : AP w P xs ls vi vl b o c f r) (hk : f.k ≠ 4) (hm : xs.length + ls.length ≠ 64) (hl : ¬ 256 < r.length) (hc : compl (pgOf xs ls) = false) (hw1 : ¬ f.w = [105, 110]) (hw2 : ¬ f.w = [111, 117, 116]) (hx : nameB f.w = true) (hy : (r.getD 0 default).w ≠ [58]) :
    Calls Tryz.prog 20 #[.pointer (some ⟨P, 0, none⟩), .slice (some ⟨b, o, none⟩) (r.length + 1) c] w (AddRes w P xs ls vi vl (addR (pgOf xs ls) (f :: r))) := by
  have HA := Lib.hid h
  obtain ⟨d0, d1, df⟩ := h.ps.cells
  have hPl := h.ps.lt
  have hPl1 : P < w.heap.size + 1 := by omega
  have hf := h.tok 0 (by simp)
  rw [Nat.zero_mul, Nat.add_zero] at hf
  obtain ⟨f0, f1, f2, f3⟩ : Cells4 w b o f := hf
  have lb : b < w.heap.size := h.lb
  have lb1 : b < w.heap.size + 1 := by omega
  have hnm := fun W hP => name_any (bs f.w) W hP (by rw [bs_size]; have := h.lw f (by simp); omega)
  rw [bs_list] at hnm
  have hcap := h.cap
  have hlen := h.len
  have hn := h.cnt
  have hL := h.laid
  have HB0 := Lib.hid (ft_below w f)
  have hs0 := h.ps.keep (ft_below w f)
  have hcm := fun W (hs : PS W P xs ls vi vl) => complete_any W P xs ls vi vl hs (by omega)
  obtain ⟨Ai, ci, rfl, hci⟩ := row_shape h.ps.owi
  obtain ⟨Al, cl, rfl, hcl⟩ := row_shape h.ps.owl
  have hpl : (pgOf xs ls).ins.length + (pgOf xs ls).lns.length = xs.length + ls.length := by simp [pgOf]
  have HS0 := Lib.hid hs0
  clear h hs0 df
  have hr0 := (HA.out.en.next fun e => hk e.1).pos
  obtain ⟨u, hu⟩ : ∃ u, u = r.getD 0 default := ⟨_, rfl⟩
  rw [← hu] at hy
  have HX := Lib.hid (show addR (pgOf xs ls) (f :: r) = .err u.a 42 by unfold addR; simp only; rw [if_neg hk, if_neg (by rw [hpl]; exact hm), if_neg hl, if_neg (by rw [hc]; exact Bool.false_ne_true), if_neg hw1, if_neg hw2, if_neg (by rw [hx]; exact Bool.noConfusion), if_pos (by rw [← hu]; exact hy), hu])
  rw [hx] at hnm
  rw [hc] at hcm
  have hk2 : (f.k == 4) = false := by simpa using hk
  have hm2 : ¬ (xs.length : Int) + (ls.length : Int) = 64 := by omega
  have hl2 : ¬ (256 : Int) < (r.length : Int) := by omega
  have hnp : ¬ PM P (.slice Ai xs.length ci) (.slice Al ls.length cl) w.heap.size := fun hk => by have := (HA.out.ps.base _ hk).2; omega
  have HNP := Lib.hid hnp
  have HK := Lib.hid (And.intro hk hl)
  have x1 := cmpNo hw1
  have x2 := cmpNo hw2
  have hy2 : ¬ u.w = [58] := hy
  have HX3 := Lib.hid (cmpNo hy2)
  have HU := Lib.hid (show Cells4 w b (o + 4) u by have h1 := HA.out.tok 1 (by simp; omega); rw [nth_cons_succ] at h1; rw [hu]; exact h1)
  clear hk hm hpl hl hc hw1 hw2 hnp hx hy hy2 hu
  go_enter Tryz.func20, Tryz.ntmps20
  go_wp2
  go_quiet (fail)
  go_wp2_with (first | (go_at_call 21; refine (hcm _ (HS0.out.keep (draw_b _ _))).mono ?_; rintro e w2 ⟨rfl, g2⟩; have hb2 := HB0.out.trans ((draw_b _ _).trans (g2.below.mono (draw_b _ _).size) |>.mono HB0.out.size); have h2 := (g2.below.block w.heap.size (by first | omega | (simp; omega) | simp)).trans (box1 w (.cells #[.int .i64 0, .int .i64 0] 41) (.cells #[.int .i64 f.k, .int .i64 f.a, .string (bs f.w), .int .i64 f.n] 56)); have h3 := (g2.below.block (w.heap.size + 1) (by first | omega | (simp; omega) | simp)).trans (box2 w (.cells #[.int .i64 0, .int .i64 0] 41) (.cells #[.int .i64 f.k, .int .i64 f.a, .string (bs f.w), .int .i64 f.n] 56)); have s0 : w2.cell? ⟨w.heap.size + 1, 0, none⟩ = some (.int .i64 f.k) := (by rw [cell_of_row _ _ _ _ _ _ h3]; rfl); have s1 : w2.cell? ⟨w.heap.size + 1, 1, none⟩ = some (.int .i64 f.a) := (by rw [cell_of_row _ _ _ _ _ _ h3]; rfl); have s2 : w2.cell? ⟨w.heap.size + 1, 2, none⟩ = some (.string (bs f.w)) := (by rw [cell_of_row _ _ _ _ _ _ h3]; rfl); have s3 : w2.cell? ⟨w.heap.size + 1, 3, none⟩ = some (.int .i64 f.n) := (by rw [cell_of_row _ _ _ _ _ _ h3]; rfl); have ls3 := heap_lt h3; have H2 := Lib.hid (And.intro hb2 (And.intro h2 h3)); clear g2 h2 h3 hb2) | (go_at_call 38; refine (hnm _ (hL.below H2.out.1)).mono ?_; rintro e w4 ⟨rfl, g4⟩; have hb4 := H2.out.1.trans (g4.mono H2.out.1.size); have h4 := (g4.block w.heap.size (heap_lt H2.out.2.1)).trans H2.out.2.1; have h5 := (g4.block (w.heap.size + 1) (heap_lt H2.out.2.2)).trans H2.out.2.2; have v0 : w4.cell? ⟨w.heap.size + 1, 0, none⟩ = some (.int .i64 f.k) := (by rw [cell_of_row _ _ _ _ _ _ h5]; rfl); have v1 : w4.cell? ⟨w.heap.size + 1, 1, none⟩ = some (.int .i64 f.a) := (by rw [cell_of_row _ _ _ _ _ _ h5]; rfl); have v2 : w4.cell? ⟨w.heap.size + 1, 2, none⟩ = some (.string (bs f.w)) := (by rw [cell_of_row _ _ _ _ _ _ h5]; rfl); have v3 : w4.cell? ⟨w.heap.size + 1, 3, none⟩ = some (.int .i64 f.n) := (by rw [cell_of_row _ _ _ _ _ _ h5]; rfl); have hlb4 : b < w4.heap.size := Nat.lt_of_lt_of_le lb hb4.size; obtain ⟨u0, u1, u2, u3⟩ := HU.out.below hb4 lb; have x3 := HX3.out; have H4 := Lib.hid (And.intro hb4 (And.intro h4 h5)); clear g4 h4 h5 hb4) | (go_at_call 22; refine (fault_any u 42 _).mono ?_; rintro e w1 ⟨rfl, g1⟩; have h1 := (g1.below.block w.heap.size (heap_lt H4.out.2.1)).trans H4.out.2.1; have j0 : w1.cell? ⟨w.heap.size, 0, none⟩ = some (.int .i64 0) := (by rw [cell_of_row _ _ _ _ _ _ h1]; rfl); have j1 : w1.cell? ⟨w.heap.size, 1, none⟩ = some (.int .i64 0) := (by rw [cell_of_row _ _ _ _ _ _ h1]; rfl); have j2 := frozen_of_row _ _ 0 _ _ h1; have j3 := frozen_of_row _ _ 1 _ _ h1; have H1 := Lib.hid h1; clear h1; have G1 := Lib.hid g1; clear g1))
  exact bodyPost_ret (v := .agg #[.int .i64 u.a, .int .i64 42]) (by simp [results, Tryz.results20, go_sem, j0, j1]) rfl (by rw [HX.out]; exact ⟨rfl, (((below_fr H4.out.1 _).gr G1.out).set (b := w.heap.size) (.inr (Nat.le_refl _)) 0 (.int .i64 u.a)).set (b := w.heap.size) (.inr (Nat.le_refl _)) 1 (.int .i64 42)⟩)
end Go.Proofs.YtbapgdhcbfpdoaaGreatDoor
/- Contract of package parse: add, lines. Written by gen_k4.py. -/
namespace Go.Proofs.YtbapgdhcbfpdoaaGreatDoor
open Go.RowKit
theorem TR.tail2 {w : World} {b o c : Nat} {r : List Tk} (h : TR w b (o + 4) (c - 1) r) : TR w b (o + 8) (c - 2) (r.drop 1) := by
  cases r with
  | nil => exact ⟨fun i hi => by simp at hi, h.tb, by simp, by simp, fun t ht => by simp at ht⟩
  | cons x r => exact h.tail
set_option maxRecDepth 100000 in
set_option maxHeartbeats 800000 in
theorem add_out (w : World) (P : Nat) (xs : List NM) (ls : List LM) (vi vl : Value) (b o c : Nat) (f : Tk) (r : List Tk) (h : AP w P xs ls vi vl b o c f r) (hk : f.k ≠ 4) (hm : xs.length + ls.length ≠ 64) (hl : ¬ 256 < r.length) (hc : compl (pgOf xs ls) = false) (hw1 : ¬ f.w = [105, 110]) (hw : f.w = [111, 117, 116]) :
    Calls Tryz.prog 20 #[.pointer (some ⟨P, 0, none⟩), .slice (some ⟨b, o, none⟩) (r.length + 1) c] w (AddRes w P xs ls vi vl (addR (pgOf xs ls) (f :: r))) := by
  have HA := Lib.hid h
  obtain ⟨d0, d1, df⟩ := h.ps.cells
  have hPl := h.ps.lt
  have hPl1 : P < w.heap.size + 1 := by omega
  have hf := h.tok 0 (by simp)
  rw [Nat.zero_mul, Nat.add_zero] at hf
  obtain ⟨f0, f1, f2, f3⟩ : Cells4 w b o f := hf
  have lb : b < w.heap.size := h.lb
  have lb1 : b < w.heap.size + 1 := by omega
  have hnm := fun W hP => name_any (bs f.w) W hP (by rw [bs_size]; have := h.lw f (by simp); omega)
  rw [bs_list] at hnm
  have hcap := h.cap
  have hlen := h.len
  have hn := h.cnt
  have hL := h.laid
  have HB0 := Lib.hid (ft_below w f)
  have hs0 := h.ps.keep (ft_below w f)
  have hcm := fun W (hs : PS W P xs ls vi vl) => complete_any W P xs ls vi vl hs (by omega)
  obtain ⟨Ai, ci, rfl, hci⟩ := row_shape h.ps.owi
  obtain ⟨Al, cl, rfl, hcl⟩ := row_shape h.ps.owl
  have hpl : (pgOf xs ls).ins.length + (pgOf xs ls).lns.length = xs.length + ls.length := by simp [pgOf]
  have HS0 := Lib.hid hs0
  clear h hs0 df
  have HX := Lib.hid (show addR (pgOf xs ls) (f :: r) = addLnR (pgOf xs ls) [] f.a r by unfold addR; simp only; rw [if_neg hk, if_neg (by rw [hpl]; exact hm), if_neg hl, if_neg (by rw [hc]; exact Bool.false_ne_true), if_neg hw1, if_pos hw])
  rw [hc] at hcm
  have hk2 : (f.k == 4) = false := by simpa using hk
  have hm2 : ¬ (xs.length : Int) + (ls.length : Int) = 64 := by omega
  have hl2 : ¬ (256 : Int) < (r.length : Int) := by omega
  have hnp : ¬ PM P (.slice Ai xs.length ci) (.slice Al ls.length cl) w.heap.size := fun hk => by have := (HA.out.ps.base _ hk).2; omega
  have HNP := Lib.hid hnp
  have HK := Lib.hid (And.intro hk hl)
  have x1 := cmpNo hw1
  have x2 := cmpYes hw
  have hr0 := (HA.out.en.next fun e => hk e.1).pos
  have y9 : ¬ c = 1 := by omega
  have y0 : (0 : Int) ≤ (r.length : Int) := by omega
  have y1 : (1 : Int) ≤ (r.length : Int) + 1 := by omega
  have y2 : (r.length : Int) + 1 ≤ (c : Int) := by omega
  have y3 : (1 : Int) ≤ (c : Int) := by omega
  clear hk hm hnm hpl hl hc hw hw1 hnp
  go_enter Tryz.func20, Tryz.ntmps20
  go_wp2
  go_quiet (fail)
  go_wp2_with (first | (go_at_call 21; refine (hcm _ (HS0.out.keep (draw_b _ _))).mono ?_; rintro e w2 ⟨rfl, g2⟩; have hb2 := HB0.out.trans ((draw_b _ _).trans (g2.below.mono (draw_b _ _).size) |>.mono HB0.out.size); have h2 := (g2.below.block w.heap.size (by first | omega | (simp; omega) | simp)).trans (box1 w (.cells #[.int .i64 0, .int .i64 0] 41) (.cells #[.int .i64 f.k, .int .i64 f.a, .string (bs f.w), .int .i64 f.n] 56)); have h3 := (g2.below.block (w.heap.size + 1) (by first | omega | (simp; omega) | simp)).trans (box2 w (.cells #[.int .i64 0, .int .i64 0] 41) (.cells #[.int .i64 f.k, .int .i64 f.a, .string (bs f.w), .int .i64 f.n] 56)); have s0 : w2.cell? ⟨w.heap.size + 1, 0, none⟩ = some (.int .i64 f.k) := (by rw [cell_of_row _ _ _ _ _ _ h3]; rfl); have s1 : w2.cell? ⟨w.heap.size + 1, 1, none⟩ = some (.int .i64 f.a) := (by rw [cell_of_row _ _ _ _ _ _ h3]; rfl); have s2 : w2.cell? ⟨w.heap.size + 1, 2, none⟩ = some (.string (bs f.w)) := (by rw [cell_of_row _ _ _ _ _ _ h3]; rfl); have s3 : w2.cell? ⟨w.heap.size + 1, 3, none⟩ = some (.int .i64 f.n) := (by rw [cell_of_row _ _ _ _ _ _ h3]; rfl); have ls3 := heap_lt h3; have H2 := Lib.hid (And.intro hb2 (And.intro h2 h3)); clear g2 h2 h3 hb2))
  have hal := addLine_any w2.drew P xs ls _ _ (HA.out.ps.keep (bel_drew H2.out.1)) [] f.a b (o + 4) (c - 1) r ((HA.out.tr HK.out.2 (bel_drew H2.out.1)).tail) (HA.out.en.next (fun e => HK.out.1 e.1)) (hL.below (bel_drew H2.out.1)) (by omega)
  rw [show bs [] = ⟨#[]⟩ from rfl] at hal
  have HAL := Lib.hid hal
  clear hal
  go_region_law ((go_simp; go_at_call 37; refine (HAL.out).mono ?_; rintro e w3 hres; obtain ⟨ra, rc, rfl, hfr⟩ := hres.val; have h3 := (hfr.block w.heap.size (heap_lt H2.out.2.1) HNP.out).trans H2.out.2.1; have j0 : w3.cell? ⟨w.heap.size, 0, none⟩ = some (.int .i64 0) := (by rw [cell_of_row _ _ _ _ _ _ h3]; rfl); have j1 : w3.cell? ⟨w.heap.size, 1, none⟩ = some (.int .i64 0) := (by rw [cell_of_row _ _ _ _ _ _ h3]; rfl); have j2 : w3.frozen? ⟨w.heap.size, 0, none⟩ = false := frozen_of_row _ _ _ _ _ h3; have j3 : w3.frozen? ⟨w.heap.size, 1, none⟩ = false := frozen_of_row _ _ _ _ _ h3; have HR := Lib.hid (And.intro hres h3); clear hres hfr h3))
  all_goals
    go_wp2
    exact bodyPost_ret (v := .agg #[.int .i64 ra, .int .i64 rc]) (by simp [results, Tryz.results20, go_sem, j0, j1]) rfl (by rw [HX.out]; exact HR.out.1.up (bel_drew H2.out.1) (Nat.le_refl _) HR.out.2 _ _)
set_option maxRecDepth 100000 in
set_option maxHeartbeats 800000 in
theorem add_named (w : World) (P : Nat) (xs : List NM) (ls : List LM) (vi vl : Value) (b o c : Nat) (f : Tk) (r : List Tk) (h : AP w P xs ls vi vl b o c f r) (hk : f.k ≠ 4) (hm : xs.length + ls.length ≠ 64) (hl : ¬ 256 < r.length) (hc : compl (pgOf xs ls) = false) (hw1 : ¬ f.w = [105, 110]) (hw2 : ¬ f.w = [111, 117, 116]) (hx : nameB f.w = true) (hy : (r.getD 0 default).w = [58]) :
    Calls Tryz.prog 20 #[.pointer (some ⟨P, 0, none⟩), .slice (some ⟨b, o, none⟩) (r.length + 1) c] w (AddRes w P xs ls vi vl (addR (pgOf xs ls) (f :: r))) := by
  have HA := Lib.hid h
  obtain ⟨d0, d1, df⟩ := h.ps.cells
  have hPl := h.ps.lt
  have hPl1 : P < w.heap.size + 1 := by omega
  have hf := h.tok 0 (by simp)
  rw [Nat.zero_mul, Nat.add_zero] at hf
  obtain ⟨f0, f1, f2, f3⟩ : Cells4 w b o f := hf
  have lb : b < w.heap.size := h.lb
  have lb1 : b < w.heap.size + 1 := by omega
  have hnm := fun W hP => name_any (bs f.w) W hP (by rw [bs_size]; have := h.lw f (by simp); omega)
  rw [bs_list] at hnm
  have hcap := h.cap
  have hlen := h.len
  have hn := h.cnt
  have hL := h.laid
  have HB0 := Lib.hid (ft_below w f)
  have hs0 := h.ps.keep (ft_below w f)
  have hcm := fun W (hs : PS W P xs ls vi vl) => complete_any W P xs ls vi vl hs (by omega)
  obtain ⟨Ai, ci, rfl, hci⟩ := row_shape h.ps.owi
  obtain ⟨Al, cl, rfl, hcl⟩ := row_shape h.ps.owl
  have hpl : (pgOf xs ls).ins.length + (pgOf xs ls).lns.length = xs.length + ls.length := by simp [pgOf]
  have HS0 := Lib.hid hs0
  clear h hs0 df
  have hr0 := (HA.out.en.next fun e => hk e.1).pos
  obtain ⟨u, hu⟩ : ∃ u, u = r.getD 0 default := ⟨_, rfl⟩
  rw [← hu] at hy
  have HX := Lib.hid (show addR (pgOf xs ls) (f :: r) = addLnR (pgOf xs ls) f.w f.a (r.drop 1) by unfold addR; simp only; rw [if_neg hk, if_neg (by rw [hpl]; exact hm), if_neg hl, if_neg (by rw [hc]; exact Bool.false_ne_true), if_neg hw1, if_neg hw2, if_neg (by rw [hx]; exact Bool.noConfusion), if_neg (by rw [← hu]; simp [hy])])
  rw [hx] at hnm
  rw [hc] at hcm
  have hk2 : (f.k == 4) = false := by simpa using hk
  have hm2 : ¬ (xs.length : Int) + (ls.length : Int) = 64 := by omega
  have hl2 : ¬ (256 : Int) < (r.length : Int) := by omega
  have hnp : ¬ PM P (.slice Ai xs.length ci) (.slice Al ls.length cl) w.heap.size := fun hk => by have := (HA.out.ps.base _ hk).2; omega
  have HNP := Lib.hid hnp
  have HK := Lib.hid (And.intro hk hl)
  have x1 := cmpNo hw1
  have x2 := cmpNo hw2
  have HX3 := Lib.hid (cmpYes hy)
  have HU := Lib.hid (show Cells4 w b (o + 4) u by have h1 := HA.out.tok 1 (by simp; omega); rw [nth_cons_succ] at h1; rw [hu]; exact h1)
  obtain ⟨u', r', hr'⟩ : ∃ u' r', r = u' :: r' := by
    cases r with
    | nil => simp at hr0
    | cons x y => exact ⟨x, y, rfl⟩
  have hen' : Ends (r.drop 1) := by
    rw [hr']
    have h1 := HA.out.en.next fun e => hk e.1
    rw [hr'] at h1 hu
    exact h1.next fun e => by rw [show u = u' from hu, e.2] at hy; cases hy
  have hr1 : (r.drop 1).length = r.length - 1 := by simp
  have hr2 : 0 < (r.drop 1).length := hen'.pos
  have HEN := Lib.hid hen'
  have HR1 := Lib.hid hr1
  have y9 : ¬ c = 2 := by omega
  have y8 : ¬ c = 1 := by omega
  have y0 : (0 : Int) ≤ (r.length : Int) := by omega
  have y1 : (2 : Int) ≤ (r.length : Int) + 1 := by omega
  have y2 : (r.length : Int) + 1 ≤ (c : Int) := by omega
  have y3 : (2 : Int) ≤ (c : Int) := by omega
  clear hk hm hpl hl hc hw1 hw2 hnp hx hy hu hr' hen' hr1 hr2
  go_enter Tryz.func20, Tryz.ntmps20
  go_wp2
  go_quiet (fail)
  go_wp2_with (first | (go_at_call 21; refine (hcm _ (HS0.out.keep (draw_b _ _))).mono ?_; rintro e w2 ⟨rfl, g2⟩; have hb2 := HB0.out.trans ((draw_b _ _).trans (g2.below.mono (draw_b _ _).size) |>.mono HB0.out.size); have h2 := (g2.below.block w.heap.size (by first | omega | (simp; omega) | simp)).trans (box1 w (.cells #[.int .i64 0, .int .i64 0] 41) (.cells #[.int .i64 f.k, .int .i64 f.a, .string (bs f.w), .int .i64 f.n] 56)); have h3 := (g2.below.block (w.heap.size + 1) (by first | omega | (simp; omega) | simp)).trans (box2 w (.cells #[.int .i64 0, .int .i64 0] 41) (.cells #[.int .i64 f.k, .int .i64 f.a, .string (bs f.w), .int .i64 f.n] 56)); have s0 : w2.cell? ⟨w.heap.size + 1, 0, none⟩ = some (.int .i64 f.k) := (by rw [cell_of_row _ _ _ _ _ _ h3]; rfl); have s1 : w2.cell? ⟨w.heap.size + 1, 1, none⟩ = some (.int .i64 f.a) := (by rw [cell_of_row _ _ _ _ _ _ h3]; rfl); have s2 : w2.cell? ⟨w.heap.size + 1, 2, none⟩ = some (.string (bs f.w)) := (by rw [cell_of_row _ _ _ _ _ _ h3]; rfl); have s3 : w2.cell? ⟨w.heap.size + 1, 3, none⟩ = some (.int .i64 f.n) := (by rw [cell_of_row _ _ _ _ _ _ h3]; rfl); have ls3 := heap_lt h3; have H2 := Lib.hid (And.intro hb2 (And.intro h2 h3)); clear g2 h2 h3 hb2) | (go_at_call 38; refine (hnm _ (hL.below H2.out.1)).mono ?_; rintro e w4 ⟨rfl, g4⟩; have hb4 := H2.out.1.trans (g4.mono H2.out.1.size); have h4 := (g4.block w.heap.size (heap_lt H2.out.2.1)).trans H2.out.2.1; have h5 := (g4.block (w.heap.size + 1) (heap_lt H2.out.2.2)).trans H2.out.2.2; have v0 : w4.cell? ⟨w.heap.size + 1, 0, none⟩ = some (.int .i64 f.k) := (by rw [cell_of_row _ _ _ _ _ _ h5]; rfl); have v1 : w4.cell? ⟨w.heap.size + 1, 1, none⟩ = some (.int .i64 f.a) := (by rw [cell_of_row _ _ _ _ _ _ h5]; rfl); have v2 : w4.cell? ⟨w.heap.size + 1, 2, none⟩ = some (.string (bs f.w)) := (by rw [cell_of_row _ _ _ _ _ _ h5]; rfl); have v3 : w4.cell? ⟨w.heap.size + 1, 3, none⟩ = some (.int .i64 f.n) := (by rw [cell_of_row _ _ _ _ _ _ h5]; rfl); have hlb4 : b < w4.heap.size := Nat.lt_of_lt_of_le lb hb4.size; obtain ⟨u0, u1, u2, u3⟩ := HU.out.below hb4 lb; have x3 := HX3.out; have H4 := Lib.hid (And.intro hb4 (And.intro h4 h5)); clear g4 h4 h5 hb4))
  have hal := addLine_any w4.drew P xs ls _ _ (HA.out.ps.keep (bel_drew H4.out.1)) f.w f.a b (o + 8) (c - 2) (r.drop 1) (by have h := (HA.out.tr HK.out.2 (bel_drew H4.out.1)).tail.tail2; exact h) HEN.out (hL.below (bel_drew H4.out.1)) (by omega)
  rw [HR1.out] at hal
  have HAL := Lib.hid hal
  clear hal
  go_region_law ((go_simp; go_at_call 37; refine (HAL.out).mono ?_; rintro e w3 hres; obtain ⟨ra, rc, rfl, hfr⟩ := hres.val; have h3 := (hfr.block w.heap.size (heap_lt H4.out.2.1) HNP.out).trans H4.out.2.1; have j0 : w3.cell? ⟨w.heap.size, 0, none⟩ = some (.int .i64 0) := (by rw [cell_of_row _ _ _ _ _ _ h3]; rfl); have j1 : w3.cell? ⟨w.heap.size, 1, none⟩ = some (.int .i64 0) := (by rw [cell_of_row _ _ _ _ _ _ h3]; rfl); have j2 : w3.frozen? ⟨w.heap.size, 0, none⟩ = false := frozen_of_row _ _ _ _ _ h3; have j3 : w3.frozen? ⟨w.heap.size, 1, none⟩ = false := frozen_of_row _ _ _ _ _ h3; have HR := Lib.hid (And.intro hres h3); clear hres hfr h3))
  all_goals
    go_wp2
    exact bodyPost_ret (v := .agg #[.int .i64 ra, .int .i64 rc]) (by simp [results, Tryz.results20, go_sem, j0, j1]) rfl (by rw [HX.out]; exact HR.out.1.up (bel_drew H4.out.1) (Nat.le_refl _) HR.out.2 _ _)
end Go.Proofs.YtbapgdhcbfpdoaaGreatDoor
/- Contract of package parse: add, whole. -/
namespace Go.Proofs.YtbapgdhcbfpdoaaGreatDoor
open Go.RowKit
theorem add_any (w : World) (P : Nat) (xs : List NM) (ls : List LM) (vi vl : Value) (b o c : Nat) (f : Tk) (r : List Tk) (h : AP w P xs ls vi vl b o c f r) :
    Calls Tryz.prog 20 #[.pointer (some ⟨P, 0, none⟩), .slice (some ⟨b, o, none⟩) (r.length + 1) c] w (AddRes w P xs ls vi vl (addR (pgOf xs ls) (f :: r))) := by
  by_cases hk : f.k = 4
  · exact add_end w P xs ls vi vl b o c f r h hk
  by_cases hm : xs.length + ls.length = 64
  · exact add_many w P xs ls vi vl b o c f r h hk hm
  by_cases hl : 256 < r.length
  · exact add_long w P xs ls vi vl b o c f r h hk hm hl
  cases hc : compl (pgOf xs ls) with
  | true => exact add_over w P xs ls vi vl b o c f r h hk hm hl hc
  | false =>
    by_cases hw1 : f.w = [105, 110]
    · exact add_in w P xs ls vi vl b o c f r h hk hm hl hc hw1
    by_cases hw2 : f.w = [111, 117, 116]
    · exact add_out w P xs ls vi vl b o c f r h hk hm hl hc hw1 hw2
    cases hx : nameB f.w with
    | false => exact add_noname w P xs ls vi vl b o c f r h hk hm hl hc hw1 hw2 hx
    | true =>
      by_cases hy : (r.getD 0 default).w = [58]
      · exact add_named w P xs ls vi vl b o c f r h hk hm hl hc hw1 hw2 hx hy
      · exact add_nocolon w P xs ls vi vl b o c f r h hk hm hl hc hw1 hw2 hx hy
end Go.Proofs.YtbapgdhcbfpdoaaGreatDoor
/- Contract of the library's IndexFunc, over tokens. -/
namespace Go.Proofs.YtbapgdhcbfpdoaaGreatDoor
open Go.RowKit
theorem find_at {ts : List Tk} {k : Nat} (h : k < ts.length) (hp : ∀ j, j < k → isEnd (nth ts j) = false) (hk : isEnd (nth ts k) = true) : ts.findIdx isEnd = k := by
  rw [List.findIdx_eq h]
  refine ⟨by rw [← nth_get h]; exact hk, fun j hj => ?_⟩
  rw [← nth_get (by omega)]
  exact hp j hj
set_option maxRecDepth 100000 in
set_option maxHeartbeats 1600000 in
theorem index_any (w : World) (b o c : Nat) (ts : List Tk) (hT : ∀ i, i < ts.length → Cells4 w b (o + i * 4) (nth ts i)) (lb : b < w.heap.size) (hl : ts.length ≤ 1000000) (hf : ts.findIdx isEnd < ts.length) :
    Calls Tryz.prog 18 #[.slice (some ⟨b, o, none⟩) ts.length c, .func (.func 19) #[] #[]] w fun e w' => e = .returned (.int .i64 (ts.findIdx isEnd : Nat)) ∧ Gr w w' := by
  have HT := Lib.hid hT
  have HF := Lib.hid hf
  clear hT hf
  go_enter Tryz.func18, Tryz.ntmps18
  go_wp2
  have hz : ts.findIdx isEnd ≤ ts.length := by have := HF.out; omega
  go_loopw [8] (fun i wx => ∃ k : Nat, k ≤ ts.findIdx isEnd ∧ i = .int .i64 k ∧ Hid (Gr w wx)) (fun i _ => ts.length - (intOf i).toNat)
  case atStart => exact ⟨0, by omega, rfl, Gr.refl _⟩
  case round =>
    obtain ⟨k, hk, rfl, HP⟩ := hrel
    have hlt : k < ts.length := by have := HF.out; omega
    obtain ⟨f0, f1, f2, f3⟩ := cells4_keep (HT.out k hlt) (HP.out.below.block b lb)
    have lb' : b < wr.heap.size := by have := HP.out.below.size; omega
    by_cases he : k = ts.findIdx isEnd
    · have hb : isEnd (nth ts k) = true := by
        rw [he, nth_get HF.out]; exact List.findIdx_getElem (w := HF.out)
      have HE := Lib.hid he
      clear he
      go_wp2_with (first | (go_at_call 19; refine (parse1_any (nth ts k) _).mono ?_; rw [hb]; rintro e w2 ⟨rfl, g2⟩))
      go_ret
      exact ⟨by rw [HE.out]; rfl, HP.out.trans g2⟩
    · have hb : isEnd (nth ts k) = false := by
        rw [nth_get hlt]; exact List.not_of_lt_findIdx (by omega)
      have HE := Lib.hid he
      clear he
      go_wp2_with (first | (go_at_call 19; refine (parse1_any (nth ts k) _).mono ?_; rw [hb]; rintro e w2 ⟨rfl, g2⟩))
      go_round
      case rel => exact ⟨k + 1, by have := HE.out; omega, by go_num, HP.out.trans g2⟩
      case measure => simp [intOf]; omega
end Go.Proofs.YtbapgdhcbfpdoaaGreatDoor
