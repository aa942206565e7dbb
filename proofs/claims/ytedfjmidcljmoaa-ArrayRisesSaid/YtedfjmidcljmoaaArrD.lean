
/- Contracts: own rows of numbers; copies; indexes (layer 6). -/
import Derived.Laws.CopyOwn
import Derived.Laws.OwnMore
import Derived.Test.YtedfjmidcljmoaaArrC
namespace Go.Proofs.Ytedfjmidcljmoaa
open Go.RowKit
set_option linter.unusedVariables false
/-- A block is just these numbers. -/
def BkA (w : World) (g : Nat) (l : List Int) : Prop := w.heap[g]? = some (.cells (l.map fun x => Value.int .i64 x).toArray 2 (0, 0))
theorem BkA.lt {w : World} {g : Nat} {l : List Int} (h : BkA w g l) : g < w.heap.size := by
  rcases Nat.lt_or_ge g w.heap.size with hlt | hge
  · exact hlt
  · unfold BkA at h; rw [Array.getElem?_eq_none hge] at h; cases h
theorem BkA.cell {w : World} {g : Nat} {l : List Int} (h : BkA w g l) {k : Nat} (hk : k < l.length) : w.cell? ⟨g, k, none⟩ = some (.int .i64 (ith l k)) := by
  rw [cell_of_row w g k _ 2 (0, 0) h]
  simp [ith_get hk]
theorem BkA.frozen {w : World} {g : Nat} {l : List Int} (h : BkA w g l) (k : Nat) : w.frozen? ⟨g, k, none⟩ = false := by
  unfold BkA at h
  simp [World.frozen?, h]
theorem BkA.below {w w' : World} {g : Nat} {l : List Int} (h : BkA w g l) (hb : Below w.heap.size w w') : BkA w' g l := (hb.block g h.lt).trans h
theorem BkA.set {w : World} {g : Nat} {l : List Int} (h : BkA w g l) (k : Nat) (x : Int) : BkA (w.setCell ⟨g, k, none⟩ (.int .i64 x)) g (l.set k x) := by
  unfold BkA at h ⊢
  simp [World.setCell, Array.getElem?_modify, h, List.map_set]
theorem BkA.far {w : World} {g : Nat} {l : List Int} (h : BkA w g l) {p : Addr} (hp : g ≠ p.block) (u : Value) : BkA (w.setCell p u) g l := (Below.heap_setCell w p u g hp).trans h
theorem BkA.drewN {w : World} {g : Nat} {l : List Int} (h : BkA w g l) (n : Nat) : BkA (w.drewN n) g l := h
theorem BkA.alloc {w : World} {g : Nat} {l : List Int} (h : BkA w g l) (o : Obj) : BkA (w.alloc o) g l := (Below.heap_alloc w o g h.lt).trans h
theorem BkA.rd {w : World} {g : Nat} {l : List Int} (h : BkA w g l) (hb : ∀ x ∈ l, rngA x) : RdA w (some ⟨g, 0, none⟩) l :=
  ⟨hb, fun _ => ⟨g, 0, rfl, h.lt, fun i hi => by rw [Nat.zero_add]; exact h.cell hi⟩⟩
theorem BkA.own {w : World} {g base n : Nat} {l : List Int} (h : BkA w g l) (hg : base ≤ g) (hn : l.length = n) (hm : n ≤ maxLen) : w.ownsRow base 2 1 (.slice (some ⟨g, 0, none⟩) n n) n (l.map fun x => Value.int .i64 x) :=
  ⟨by simp [hn], .inr ⟨g, n, _, rfl, hg, h, Nat.le_refl _, hm, by simp [hn], by
    rw [Nat.mul_one]; exact List.take_of_length_le (by simp [hn])⟩⟩
theorem RdA.nil (w : World) (A : Option Addr) : RdA w A [] := ⟨(fun x hx => by cases hx), (fun h => by cases h)⟩
theorem RdA.of_own {w : World} {base n c : Nat} {A : Option Addr} {l : List Int} (h : w.ownsRow base 2 1 (.slice A n c) n (l.map fun x => Value.int .i64 x)) (hb : ∀ x ∈ l, rngA x) : RdA w A l := by
  refine ⟨hb, fun hl => ?_⟩
  have hn : l.length = n := by simpa using h.1
  rcases h.2 with ⟨e, hz⟩ | ⟨g, cap, cur, e, _, hh, _⟩
  · omega
  · injection e with e1 _ _
    subst e1
    refine ⟨g, 0, rfl, ?_, fun i hi => ?_⟩
    · rcases Nat.lt_or_ge g w.heap.size with hlt | hge
      · exact hlt
      · rw [Array.getElem?_eq_none hge] at hh; cases hh
    · rw [Nat.zero_add, World.ownsRow.cellAt h i (by omega), List.getElem?_map, ith_get hi]; rfl
theorem map_replicate0 (n : Nat) : (List.replicate n (0 : Int)).map (fun x => Value.int .i64 x) = List.replicate n (Value.int .i64 0) := by simp
theorem splice_all {l cs : List Value} (h : cs.length = l.length) : splice l 0 cs = cs := by
  unfold splice
  rw [List.take_zero, List.nil_append, Nat.zero_add, h, List.drop_length, List.append_nil]
theorem intInfo : (Try.prog.info? 2).map (fun i => (i.zero, i.size, i.bytes)) = some (some (.int .i64 0), 1, 8) := by kernel_rfl
theorem intSize : (Try.prog.info? 2).map (·.size) = some 1 := by kernel_rfl
theorem make_ints (n : Nat) (hn : n ≤ 1000000000000) (w : World) : (Instr.makeSlice 22 (.int .i64 (n : Int)) (.int .i64 (n : Int))).run Try.prog w = .ok (.slice (some ⟨w.heap.size, 0, none⟩) n n) (w.alloc (.cells (List.replicate n (Value.int .i64 0)).toArray 2)) := by
  obtain ⟨i0, hi0, hz0, hz1, hz2⟩ := info_parts intInfo
  have hr := run_make (P := Try.prog) w 22 2 i0 _ Try.underlying22 hi0 hz0 .i64 .i64 n n (by omega) (by omega) (by rw [hz2]; omega) (by omega)
  simp only [Int.toNat_natCast] at hr
  rw [hr, hz1, Nat.mul_one]
  congr 3
  have := toList_madeCells_one (Value.int .i64 0) n
  rw [← this]
  rfl
def FreshR (w : World) (l : List Int) (n : Nat) (e : Ending) (w' : World) : Prop := ∃ g, e = .returned (.slice (some ⟨g, 0, none⟩) n n) ∧ w.heap.size ≤ g ∧ BkA w' g l ∧ Below w.heap.size w w'
set_option maxHeartbeats 1000000 in
theorem fresh_any (A : Option Addr) (n c : Nat) (l : List Int) (w : World) (h : RdA w A l) (hn : l.length = n) (ln : n ≤ 1000000000000) :
    Calls Try.prog 25 #[.slice A n c] w (FreshR w l n) := by
  have H := Lib.hid h
  have HN := Lib.hid hn
  clear h hn
  have hmk := make_ints n ln
  obtain ⟨cs, hcs⟩ : ∃ cs, cs = l.map fun x => Value.int .i64 x := ⟨_, rfl⟩
  have HC := Lib.hid hcs
  have HL := Lib.hid (show cs.length = n by rw [hcs, List.length_map, HN.out])
  clear hcs
  have hwn : (goInt (cs.length : Int)) = .int .i64 n := by rw [HL.out]; rfl
  go_enter Try.func25, Try.ntmps25
  go_wp2_with (with_reducible refine wpList_copy_splice rfl (.tmp 7) (.tmp 8) 22 22 rfl 2 Try.underlying22 intSize _ _ _ _ _ _ rfl rfl w.heap.size 0 (List.replicate n (Value.int .i64 0)) 2 (heap_alloc_new w _) cs (by rw [HL.out]; simp) ?c1 ?c2 ?c3 w.heap.size w ((Below.refl _ _).alloc (Nat.le_refl _) _) (Nat.le_refl _) ?c4)
  case c1 =>
    intro hpos
    have hl : 0 < l.length := by rw [HN.out, ← HL.out]; exact hpos
    obtain ⟨b, o, rfl, hb, hc⟩ := H.out.2 hl
    refine ⟨_, rfl, fun j v hv => ?_⟩
    rw [HC.out, List.getElem?_map] at hv
    rcases Nat.lt_or_ge j l.length with hj | hj
    · rw [ith_get hj] at hv
      injection hv with hv
      rw [WideShapes.add_plain, ← hv, ← hc j hj]
      exact World.cell?_alloc_lt w _ _ hb
    · rw [List.getElem?_eq_none hj] at hv; cases hv
  case c2 => rw [HL.out]; simp
  case c3 =>
    intro v hv
    rw [HC.out] at hv
    obtain ⟨x, _, rfl⟩ := List.mem_map.1 hv
    rfl
  case c4 =>
    intro w2 HG hB
    go_wp2
    go_ret
    refine ⟨w.heap.size, rfl, Nat.le_refl _, ?_, hB⟩
    have := HG.out
    rw [splice_all (by rw [HL.out]; simp), HC.out] at this
    exact this
end Go.Proofs.Ytedfjmidcljmoaa
