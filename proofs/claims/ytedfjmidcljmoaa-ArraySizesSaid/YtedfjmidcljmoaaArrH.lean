
/- Contracts: a cell by the document (layer 6). -/
import Derived.Deep.RegionHeld3
import Derived.Test.YtedfjmidcljmoaaArrG
namespace Go.Proofs.Ytedfjmidcljmoaa
open Go.RowKit
set_option linter.unusedVariables false
set_option linter.unusedSimpArgs false
/-- The cell so far: its sides, its numbers in a row of its own behind it. -/
structure CSt (u w : World) (g : Nat) (S : Value) (A : Option Addr) (m c : Nat) (l : List Int) : Prop where
  blk : w.heap[g]? = some (.cells #[S, .slice A m c] 24 (0, 0))
  own : w.ownsRow (g + 1) 2 1 (.slice A m c) m (l.map fun x => Value.int .i64 x)
  len : l.length = m
  below : Below g u w
theorem CSt.lt {u w : World} {g : Nat} {S : Value} {A : Option Addr} {m c : Nat} {l : List Int} (h : CSt u w g S A m c l) : g < w.heap.size := by
  rcases Nat.lt_or_ge g w.heap.size with hlt | hge
  · exact hlt
  · have := h.blk; rw [Array.getElem?_eq_none hge] at this; cases this
theorem CSt.up {u w w' : World} {g : Nat} {S : Value} {A : Option Addr} {m c : Nat} {l : List Int} (h : CSt u w g S A m c l) (hb : Below w.heap.size w w') : CSt u w' g S A m c l :=
  ⟨(hb.block g h.lt).trans h.blk, own_below h.own hb, h.len, h.below.trans (hb.mono (Nat.le_of_lt h.lt))⟩
theorem CSt.push {u w W w4 : World} {g : Nat} {S : Value} {A A' : Option Addr} {m c c' : Nat} {l : List Int} {x : Int} (h : CSt u w g S A m c l) (hb : Below w.heap.size w W)
    (ha : App W (g + 1) 2 (.slice A m c) A' (m + 1) c' ((l ++ [x]).map fun x => Value.int .i64 x) w4) : CSt u (w4.setCell ⟨g, 1, none⟩ (.slice A' (m + 1) c')) g S A' (m + 1) c' (l ++ [x]) := by
  have h' := h.up hb
  have hlt := h'.lt
  have hne : (Value.slice A m c).ownBlock ≠ some g := fun e => by have := (h'.own.lt g e).1; omega
  have hg : w4.heap[g]? = _ := (ha.keeps g hlt hne).trans h'.blk
  refine ⟨?_, own_stays ha.own fun k hk => ?_, by rw [List.length_append, h.len]; rfl, ?_⟩
  · simp [World.setCell, Array.getElem?_modify, hg]
  · have := (ha.own.lt k hk).1
    exact Below.heap_setCell w4 ⟨g, 1, none⟩ _ k (by simp; omega)
  · exact (h'.below.trans (ha.below' (fun k hk => by have := (h'.own.lt k hk).1; omega) (Nat.le_of_lt hlt))).setCell (Nat.le_refl _) _
theorem CSt.cell {u w : World} {g : Nat} {S : Value} {A : Option Addr} {m c : Nat} {l : List Int} (h : CSt u w g S A m c l) : w.cell? ⟨g, 0, none⟩ = some S ∧ w.cell? ⟨g, 1, none⟩ = some (.slice A m c) ∧ ∀ o, w.frozen? ⟨g, o, none⟩ = false := by
  refine ⟨?_, ?_, fun o => ?_⟩
  · rw [cell_of_row _ _ _ _ _ _ h.blk]; rfl
  · rw [cell_of_row _ _ _ _ _ _ h.blk]; rfl
  · exact frozen_of_row _ _ _ _ _ h.blk
theorem CSt.reads {u w : World} {g : Nat} {S : Value} {A : Option Addr} {m c : Nat} {l : List Int} (h : CSt u w g S A m c l) {j : Nat} (hj : j < g) (i : Nat) : w.cell? ⟨j, i, none⟩ = u.cell? ⟨j, i, none⟩ ∧ w.frozen? ⟨j, i, none⟩ = u.frozen? ⟨j, i, none⟩ :=
  ⟨World.cell?_of_block (h.below.block j hj), World.frozen?_of_block (h.below.block j hj)⟩
/-- The first index of a place. -/
theorem ix_head {s d : List Int} {i : Nat} (hr : rightB s d = true) (h0 : 0 < s.length) (hi : i < d.length) : ith (ixA s i) 0 = ((i / clA s d : Nat) : Int) ∧ 0 < clA s d := by
  obtain ⟨ho, he⟩ := right_yes hr
  have hp : 0 < ith s 0 := by
    have := ok_pos (p := (i : Int)) ho ⟨by omega, by omega⟩
    exact this _ (ith_mem h0)
  have hc := (cl_eq hr h0 hp).1
  have hpos : 0 < prodA (s.drop 1) := prodA_pos fun x hx => ok_pos (p := (i : Int)) ho ⟨by omega, by omega⟩ x (List.mem_of_mem_drop hx)
  refine ⟨?_, by omega⟩
  match s, h0 with
  | a :: t, _ =>
    show (i : Int) / prodA t = _
    have : prodA t = (clA (a :: t) d : Int) := hc.symm
    rw [this, Int.natCast_ediv]
set_option maxRecDepth 20000 in
set_option maxHeartbeats 1000000 in
theorem refcell_form (As : Option Addr) (ns cs : Nat) (Ad : Option Addr) (nd cd : Nat) (k : Int) (s d : List Int) (w : World) (h : ArU w As ns cs Ad nd cd s d) (hr : rightB s d = false) :
    Calls Try.prog 20 #[.agg #[.slice As ns cs, .slice Ad nd cd], .int .i64 k] w (CellR w (ceR s d k)) := by
  have H := Lib.hid h
  have HR := Lib.hid hr
  have hz := Lib.hid (ce_no (k := k) hr)
  clear h hr
  go_enter Try.func20, Try.ntmps20
  go_wp2_with fail
  refine (refright_any _ _ _ _ _ _ s d _ (H.out.below (((Below.refl _ _).alloc (Nat.le_refl _) _).alloc (by simp) _))).mono ?_
  rintro e w1 ⟨rfl, hb⟩
  rw [HR.out]
  obtain ⟨hc, hf⟩ := blw_reads hb
  have HB := Lib.hid (((((Below.refl _ _).alloc (Nat.le_refl _) _).alloc (by simp) _) : Below w.heap.size w _).trans (hb.mono (by simp; omega)))
  clear hb
  go_wp2
  refine bodyPost_ret (v := .tuple #[.agg #[.slice none 0 0, .slice none 0 0], .int .i64 60]) (by simp [results, Try.results20, go_sem, hc]) rfl (CellR.bad hz.out ?_)
  exact (HB.out.setCell (by simp) _).setCell (by simp) _
set_option maxRecDepth 20000 in
set_option maxHeartbeats 1000000 in
theorem refcell_none (As : Option Addr) (ns cs : Nat) (Ad : Option Addr) (nd cd : Nat) (k : Int) (s d : List Int) (w : World) (h : ArU w As ns cs Ad nd cd s d) (hr : rightB s d = true) (hk : ¬ (0 < s.length ∧ 0 ≤ k ∧ k < ith s 0)) :
    Calls Try.prog 20 #[.agg #[.slice As ns cs, .slice Ad nd cd], .int .i64 k] w (CellR w (ceR s d k)) := by
  have H := Lib.hid h
  have HR := Lib.hid hr
  have hz := Lib.hid (ce_none (k := k) hr hk)
  have HK := Lib.hid hk
  clear h hr hk
  by_cases hn : ns = 0
  · have hn1 : ((ns : Int) == 0) = true := by rw [hn]; rfl
    clear HK hn
    go_enter Try.func20, Try.ntmps20
    go_wp2_with fail
    refine (refright_any _ _ _ _ _ _ s d _ (H.out.below (((Below.refl _ _).alloc (Nat.le_refl _) _).alloc (by simp) _))).mono ?_
    rintro e w1 ⟨rfl, hb⟩
    rw [HR.out]
    obtain ⟨hc, hf⟩ := blw_reads hb
    have HB := Lib.hid (((((Below.refl _ _).alloc (Nat.le_refl _) _).alloc (by simp) _) : Below w.heap.size w _).trans (hb.mono (by simp; omega)))
    clear hb
    go_wp2
    refine bodyPost_ret (v := .tuple #[.agg #[.slice none 0 0, .slice none 0 0], .int .i64 62]) (by simp [results, Try.results20, go_sem, hc]) rfl (CellR.bad hz.out ?_)
    exact (HB.out.setCell (by simp) _).setCell (by simp) _
  · have hn1 : ((ns : Int) == 0) = false := by simp; omega
    have hn2 : 0 < ns := by omega
    obtain ⟨b0, o0, rfl, hb0, hc0⟩ := H.out.rs.at_ (k := 0) (by rw [H.out.ls]; omega)
    obtain ⟨x, hx⟩ : ∃ x, x = ith s 0 := ⟨_, rfl⟩
    rw [← hx, Nat.add_zero] at hc0
    have hbel : ¬ (0 ≤ k ∧ k < x) := by
      intro g
      rw [hx] at g
      exact HK.out ⟨by rw [H.out.ls]; omega, g⟩
    clear HK hn hx
    by_cases hk0 : k < 0
    · clear hbel
      go_enter Try.func20, Try.ntmps20
      go_wp2_with fail
      refine (refright_any _ _ _ _ _ _ s d _ (H.out.below (((Below.refl _ _).alloc (Nat.le_refl _) _).alloc (by simp) _))).mono ?_
      rintro e w1 ⟨rfl, hb⟩
      rw [HR.out]
      obtain ⟨hc, hf⟩ := blw_reads hb
      have HB := Lib.hid (((((Below.refl _ _).alloc (Nat.le_refl _) _).alloc (by simp) _) : Below w.heap.size w _).trans (hb.mono (by simp; omega)))
      clear hb
      go_wp2
      refine bodyPost_ret (v := .tuple #[.agg #[.slice none 0 0, .slice none 0 0], .int .i64 62]) (by simp [results, Try.results20, go_sem, hc]) rfl (CellR.bad hz.out ?_)
      exact (HB.out.setCell (by simp) _).setCell (by simp) _
    · have hk1 : x ≤ k := by omega
      clear hbel
      go_enter Try.func20, Try.ntmps20
      go_wp2_with fail
      refine (refright_any _ _ _ _ _ _ s d _ (H.out.below (((Below.refl _ _).alloc (Nat.le_refl _) _).alloc (by simp) _))).mono ?_
      rintro e w1 ⟨rfl, hb⟩
      rw [HR.out]
      obtain ⟨hc, hf⟩ := blw_reads hb
      have hc1 : w1.cell? ⟨b0, o0, none⟩ = some (.int .i64 x) := by
        rw [hb.cell (p := ⟨b0, o0, none⟩) (by simp; omega), World.cell?_alloc_lt _ _ _ (by simp; omega), World.cell?_alloc_lt _ _ _ hb0]; exact hc0
      have HB := Lib.hid (((((Below.refl _ _).alloc (Nat.le_refl _) _).alloc (by simp) _) : Below w.heap.size w _).trans (hb.mono (by simp; omega)))
      clear hb
      go_wp2
      refine bodyPost_ret (v := .tuple #[.agg #[.slice none 0 0, .slice none 0 0], .int .i64 62]) (by simp [results, Try.results20, go_sem, hc]) rfl (CellR.bad hz.out ?_)
      exact (HB.out.setCell (by simp) _).setCell (by simp) _
end Go.Proofs.Ytedfjmidcljmoaa
