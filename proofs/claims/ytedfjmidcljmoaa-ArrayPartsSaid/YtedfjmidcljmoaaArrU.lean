
/- Lanes and cells that are written over, while they are put together (layer 6, ArrayParts). -/
import Derived.Test.YtedfjmidcljmoaaArrT
namespace Go.Proofs.Ytedfjmidcljmoaa
open Go.RowKit
set_option linter.unusedVariables false
set_option linter.unusedSimpArgs false
theorem right_r (As : Option Addr) (ns cs : Nat) (Ad : Option Addr) (nd cd : Nat) (s d : List Int) (w : World) (h : ArU w As ns cs Ad nd cd s d) {r : Bool} (e : rightB s d = r) : Calls Try.prog 12 #[.agg #[.slice As ns cs, .slice Ad nd cd]] w (BoolB w r) := by
  rw [← e]; exact right_any As ns cs Ad nd cd s d w h
/-- What never turns: the lanes' blocks. -/
structure StA (H n : Nat) (v : Value) (cs : List Value) (ls : List (List Int)) : Prop where
  cl : cs.length = n
  ll : ls.length = n
  apart : ∀ i j, i < j → j < n → ∀ u v g, cs[i]? = some u → cs[j]? = some v → u.ownBlock = some g → v.ownBlock ≠ some g
  low : ∀ (j : Nat) (u : Value) (g : Nat), cs[j]? = some u → u.ownBlock = some g → g < H
  vlow : ∀ g, v.ownBlock = some g → g < H
theorem LnR.st {w : World} {B n : Nat} {v : Value} {cs : List Value} {ls : List (List Int)} (h : LnR w B v n cs ls) : StA w.heap.size n v cs ls := by
  refine ⟨h.cl, h.ll, h.apart, fun j u g hu hg => ?_, fun g hg => (h.own.lt g hg).2⟩
  have hj : j < n := by rw [← h.cl]; exact (List.getElem?_eq_some_iff.1 hu).1
  obtain ⟨Y, m, c, e1, e2⟩ := h.lane j hj
  rw [hu] at e1
  injection e1 with e1
  subst e1
  exact (e2.lt g hg).2
/-- The first i lanes are put together; the others stand. -/
structure PtW (u : World) (H n : Nat) (v : Value) (cs : List Value) (ls : List (List Int)) (w : World) (i : Nat) (A : Option Addr) (m c : Nat) : Prop where
  row : w.ownsRow u.heap.size 22 1 v n cs
  lane : ∀ j, i ≤ j → j < n → ∃ Y m c, cs[j]? = some (.slice Y m c) ∧ w.ownsRow u.heap.size 2 1 (.slice Y m c) m ((ls.getD j []).map fun x => Value.int .i64 x)
  all : w.ownsRow H 2 1 (.slice A m c) m ((ls.take i).flatten.map fun x => Value.int .i64 x)
  below : Below u.heap.size u w
  big : H ≤ w.heap.size
  uh : u.heap.size ≤ H
def CurA (B : Nat) (Y : Option Addr) (m c : Nat) (w : World) : Prop := ∃ xs : List Int, xs.length = m ∧ w.ownsRow B 2 1 (.slice Y m c) m (xs.map fun x => Value.int .i64 x)
theorem take_flat {ls : List (List Int)} {i : Nat} (h : i < ls.length) : (ls.take (i + 1)).flatten = (ls.take i).flatten ++ ls.getD i [] := by
  rw [List.take_add_one, List.flatten_append, List.getD_eq_getElem?_getD, List.getElem?_eq_getElem h]
  simp
theorem PtW.app {u : World} {H n : Nat} {v : Value} {cs : List Value} {ls : List (List Int)} {w w' : World} {i : Nat} {A A' Y : Option Addr} {m c m' c' c2 : Nat} (hs : StA H n v cs ls) (h : PtW u H n v cs ls w i A m c) (hi : i < n) (hc : cs[i]? = some (.slice Y m' c'))
    (ha : App w H 2 (.slice A m c) A' (m + m') c2 (((ls.take i).flatten ++ ls.getD i []).map fun x => Value.int .i64 x) w') : PtW u H n v cs ls w' (i + 1) A' (m + m') c2 ∧ CurA u.heap.size Y m' c' w' := by
  have hall : ∀ g, (Value.slice A m c).ownBlock = some g → H ≤ g := fun g hg => (h.all.lt g hg).1
  have keep : ∀ {x : Value} {e : TypeId} {B k : Nat} {xs : List Value}, w.ownsRow B e 1 x k xs → (∀ g, x.ownBlock = some g → g < H) → w'.ownsRow B e 1 x k xs := fun {x e B k xs} q hq => own_stays q fun g hg => ha.keeps g (q.lt g hg).2 (fun hg2 => by have := hall g hg2; have := hq g hg; omega)
  have hlane : ∀ j, i ≤ j → j < n → ∃ Y m c, cs[j]? = some (.slice Y m c) ∧ w'.ownsRow u.heap.size 2 1 (.slice Y m c) m ((ls.getD j []).map fun x => Value.int .i64 x) := fun j h1 h2 => by
    obtain ⟨Y2, m2, c3, e1, e2⟩ := h.lane j h1 h2
    exact ⟨Y2, m2, c3, e1, keep e2 fun g hg => hs.low j _ g e1 hg⟩
  refine ⟨⟨keep h.row hs.vlow, fun j h1 h2 => hlane j (by omega) h2, by rw [take_flat (by rw [hs.ll]; exact hi)]; exact ha.own, h.below.trans (ha.below' (fun k hk => Nat.le_trans h.uh (hall k hk)) (Nat.le_trans h.uh h.big)), Nat.le_trans h.big ha.below.size, h.uh⟩, ?_⟩
  obtain ⟨Y2, m2, c3, e1, e2⟩ := hlane i (Nat.le_refl _) hi
  rw [hc] at e1
  injection e1 with e1
  injection e1 with q1 q2 q3
  subst q1 q2 q3
  exact ⟨ls.getD i [], by have := e2.1; simpa using this, e2⟩
theorem PtW.store {u : World} {H n : Nat} {v : Value} {cs : List Value} {ls : List (List Int)} {w : World} {i : Nat} {A : Option Addr} {m c m' c' g k : Nat} {z : Int} (hs : StA H n v cs ls) (h : PtW u H n v cs ls w (i + 1) A m c) (hi : i < n) (hc : cs[i]? = some (.slice (some ⟨g, 0, none⟩) m' c'))
    (hr : CurA u.heap.size (some ⟨g, 0, none⟩) m' c' w) : PtW u H n v cs ls (w.setCell ⟨g, k, none⟩ (.int .i64 z)) (i + 1) A m c ∧ CurA u.heap.size (some ⟨g, 0, none⟩) m' c' (w.setCell ⟨g, k, none⟩ (.int .i64 z)) := by
  obtain ⟨xs, hx, ho⟩ := hr
  have hg : (Value.slice (some ⟨g, 0, none⟩) m' c').ownBlock = some g := rfl
  have hgH := hs.low i _ g hc hg
  have keep : ∀ {x : Value} {e : TypeId} {B k2 : Nat} {ys : List Value}, w.ownsRow B e 1 x k2 ys → x.ownBlock ≠ some g → (w.setCell ⟨g, k, none⟩ (.int .i64 z)).ownsRow B e 1 x k2 ys := fun {x e B k2 ys} q hq => own_stays q fun b hb => Below.heap_setCell w ⟨g, k, none⟩ _ b (fun e => hq (by rw [hb, e]))
  refine ⟨⟨keep h.row (own_apart ho h.row list_ne_int hg), fun j h1 h2 => ?_, keep h.all (fun e => by have := (h.all.lt g e).1; omega), h.below.setCell (ho.lt g hg).1 _, by simpa [World.setCell] using h.big, h.uh⟩, xs.set k z, by rw [List.length_set]; exact hx, ?_⟩
  · obtain ⟨Y2, m2, c3, e1, e2⟩ := h.lane j h1 h2
    exact ⟨Y2, m2, c3, e1, keep e2 (hs.apart i j (by omega) h2 _ _ g hc e1 hg)⟩
  · rw [List.map_set]
    exact (ho.stored k (.int .i64 z)).1
theorem PtW.start {u w : World} {n c : Nat} {A : Option Addr} {cs : List Value} {ls : List (List Int)} (h : LnR w u.heap.size (.slice A n c) n cs ls) (hb : Below u.heap.size u w) : PtW u w.heap.size n (.slice A n c) cs ls w 0 none 0 0 :=
  ⟨h.own, fun j _ hj => h.lane j hj, World.ownsRow_nil _ _ _ _, hb, Nat.le_refl _, hb.size⟩
/-- The lane that is next. -/
theorem PtW.next {u : World} {H n c4 : Nat} {A4 : Option Addr} {cs : List Value} {ls : List (List Int)} {w : World} {i : Nat} {A : Option Addr} {m c : Nat} (hs : StA H n (.slice A4 n c4) cs ls) (h : PtW u H n (.slice A4 n c4) cs ls w i A m c) (hb : ∀ l ∈ ls, l.length ≤ 65536 ∧ ∀ x ∈ l, rngA x) (hi : i < n) :
    ∃ (g4 : Nat) (Y : Option Addr) (m' c' : Nat), A4 = some ⟨g4, 0, none⟩ ∧ w.cell? ⟨g4, i, none⟩ = some (.slice Y m' c') ∧ cs[i]? = some (.slice Y m' c') ∧ RdA w Y (ls.getD i []) ∧ (ls.getD i []).length = m' ∧ m' ≤ 65536 ∧ m' ≤ c' := by
  obtain ⟨Y, m', c', h1, h2⟩ := h.lane i (Nat.le_refl _) hi
  rcases h.row.2 with ⟨_, h0⟩ | ⟨g, cap, cur, hv, _⟩
  · omega
  · injection hv with hv _ _
    have hm : (ls.getD i []).length = m' := by have := h2.1; simpa using this
    have hl : ls.getD i [] ∈ ls := by
      rw [List.getD_eq_getElem?_getD, List.getElem?_eq_getElem (by rw [hs.ll]; exact hi)]
      exact List.getElem_mem _
    subst hv
    refine ⟨g, Y, m', c', rfl, ?_, h1, RdA.of_own h2 (hb _ hl).2, hm, by rw [← hm]; exact (hb _ hl).1, (own_cap h2).1⟩
    rw [World.ownsRow.cellAt h.row i (by omega), h1]
theorem PtW.row_at {u : World} {H n c4 g4 : Nat} {cs : List Value} {ls : List (List Int)} {w : World} {i j : Nat} {A : Option Addr} {m c : Nat} (h : PtW u H n (.slice (some ⟨g4, 0, none⟩) n c4) cs ls w i A m c) (hj : j < n) : w.cell? ⟨g4, j, none⟩ = cs[j]? := by
  rw [World.ownsRow.cellAt h.row j (by omega)]
theorem CurA.at_ {B g m c k : Nat} {w : World} (h : CurA B (some ⟨g, 0, none⟩) m c w) (hk : k < m) : (∃ z : Int, w.cell? ⟨g, k, none⟩ = some (.int .i64 z)) ∧ w.frozen? ⟨g, k, none⟩ = false := by
  obtain ⟨xs, hx, ho⟩ := h
  refine ⟨⟨ith xs k, ?_⟩, ho.frozenAt k⟩
  rw [World.ownsRow.cellAt ho k (by omega), List.getElem?_map, ith_get (by omega)]; rfl
theorem CurA.form {B m c k : Nat} {Y : Option Addr} {w : World} (h : CurA B Y m c w) (hk : k < m) : ∃ g, Y = some ⟨g, 0, none⟩ ∧ B ≤ g ∧ g < w.heap.size := by
  obtain ⟨xs, hx, ho⟩ := h
  obtain ⟨g, cap, e, h1, h2⟩ := ho.form (by omega)
  injection e with e _ _
  exact ⟨g, e, h1, h2⟩
theorem flat_len {ls : List (List Int)} {i : Nat} : (ls.take i).flatten.length ≤ ls.flatten.length := by
  have h : ls.flatten = (ls.take i).flatten ++ (ls.drop i).flatten := by rw [← List.flatten_append, List.take_append_drop]
  rw [h, List.length_append]; omega
theorem all_len {u : World} {H n : Nat} {v : Value} {cs : List Value} {ls : List (List Int)} {w : World} {i : Nat} {A : Option Addr} {m c : Nat} (h : PtW u H n v cs ls w i A m c) : (ls.take i).flatten.length = m := by
  have := h.all.1; rw [List.length_map, Nat.mul_one] at this; exact this
/-! ### cells -/
/-- A cell's numbers are written over: what was put together stays. -/
structure CtI (u : World) (G T : Nat) (D : Option Addr) (nd cd : Nat) (l : List Int) (w : World) (A : Option Addr) (m c : Nat) : Prop where
  all : w.ownsRow u.heap.size 2 1 (.slice A m c) m (l.map fun x => Value.int .i64 x)
  cur : CurA G D nd cd w
  bx : w.cell? ⟨T, 1, none⟩ = some (.slice D nd cd)
  below : Below u.heap.size u w
  sep : ∀ g, (Value.slice A m c).ownBlock = some g → (Value.slice D nd cd).ownBlock ≠ some g
  sepT : (Value.slice D nd cd).ownBlock ≠ some T
  big : u.heap.size ≤ G
theorem CtI.store {u : World} {G T : Nat} {nd cd : Nat} {l : List Int} {w : World} {A : Option Addr} {m c g k : Nat} {z : Int} (h : CtI u G T (some ⟨g, 0, none⟩) nd cd l w A m c) : CtI u G T (some ⟨g, 0, none⟩) nd cd l (w.setCell ⟨g, k, none⟩ (.int .i64 z)) A m c := by
  obtain ⟨xs, hx, ho⟩ := h.cur
  have hg : (Value.slice (some ⟨g, 0, none⟩) nd cd).ownBlock = some g := rfl
  refine ⟨own_stays h.all fun b hb => Below.heap_setCell w ⟨g, k, none⟩ _ b (fun e => h.sep b hb (by rw [hg, e])), ⟨xs.set k z, by rw [List.length_set]; exact hx, by rw [List.map_set]; exact (ho.stored k (.int .i64 z)).1⟩, ?_, h.below.setCell (Nat.le_trans h.big (ho.lt g hg).1) _, h.sep, h.sepT, h.big⟩
  rw [World.cell?_of_block (a := ⟨T, 1, none⟩) (Below.heap_setCell w ⟨g, k, none⟩ _ T (fun e => h.sepT (by rw [hg, e])))]
  exact h.bx
theorem CtI.make {u wr w6 w7 w8 : World} {l l2 : List Int} {A A8 D : Option Addr} {m c nd cd c8 : Nat} {S : Value} (h : wr.ownsRow u.heap.size 2 1 (.slice A m c) m (l.map fun x => Value.int .i64 x)) (hb : Below u.heap.size u wr) (b6 : Below wr.heap.size wr w6)
    (o6 : w6.ownsRow wr.heap.size 2 1 (.slice D nd cd) nd (l2.map fun x => Value.int .i64 x)) (b7 : Below (w6.alloc (.cells #[S, .slice D nd cd] 24)).heap.size (w6.alloc (.cells #[S, .slice D nd cd] 24)) w7)
    (ha : App w7 u.heap.size 2 (.slice A m c) A8 (m + nd) c8 ((l ++ l2).map fun x => Value.int .i64 x) w8) : CtI u wr.heap.size w6.heap.size D nd cd (l ++ l2) w8 A8 (m + nd) c8 := by
  have hz : (w6.alloc (.cells #[S, .slice D nd cd] 24)).heap.size = w6.heap.size + 1 := by simp
  have h7 : w6.heap.size < w7.heap.size := by have := b7.size; omega
  have h6 : wr.heap.size ≤ w6.heap.size := b6.size
  have hold : ∀ g, (Value.slice A m c).ownBlock = some g → g < wr.heap.size := fun g hg => (h.lt g hg).2
  have hD : ∀ g, (Value.slice D nd cd).ownBlock = some g → wr.heap.size ≤ g ∧ g < w6.heap.size := fun g hg => o6.lt g hg
  have hT : w8.heap[w6.heap.size]? = some (.cells #[S, .slice D nd cd] 24 (0, 0)) :=
    (ha.keeps _ h7 (fun e => by have := hold _ e; omega)).trans ((b7.block _ (by omega)).trans (heap_alloc_new w6 _))
  have o7 : w7.ownsRow wr.heap.size 2 1 (.slice D nd cd) nd (l2.map fun x => Value.int .i64 x) := own_below (o6.alloc _) b7
  have o8 : w8.ownsRow wr.heap.size 2 1 (.slice D nd cd) nd (l2.map fun x => Value.int .i64 x) := own_stays o7 fun g hg => ha.keeps g (by have := (hD g hg).2; omega) (fun e => by have := hold g e; have := (hD g hg).1; omega)
  have hb7 : Below u.heap.size u w7 := hb.trans ((b6.mono hb.size).trans ((((Below.refl w6.heap.size w6).alloc (Nat.le_refl _) (.cells #[S, .slice D nd cd] 24)).trans (b7.mono (by omega))).mono (Nat.le_trans hb.size h6)))
  refine ⟨ha.own, ⟨l2, by have := o6.1; rw [List.length_map, Nat.mul_one] at this; exact this, o8⟩, ?_, hb7.trans ha.below, fun g hg hg2 => ?_, fun e => by have := (hD _ e).2; omega, hb.size⟩
  · rw [cell_of_row _ _ _ _ _ _ hT]; rfl
  · have h1 := hD g hg2
    rcases ha.lies g hg with e | e
    · have := hold g e; omega
    · omega
theorem take_cell (d : List Int) (k q : Nat) : d.take ((k + 1) * q) = d.take (k * q) ++ (d.drop (k * q)).take q := by
  rw [Nat.add_mul, Nat.one_mul, List.take_add]
theorem all_cells {s d : List Int} (h : rightB s d = true) (hl : 0 < s.length) : (ith s 0).toNat * clA s d = d.length := by
  rcases Int.lt_or_eq_of_le (ok_ith (right_yes h).1 0).1 with h0 | h0
  · exact (cl_eq h hl h0).2
  · have h1 := (right_yes h).2
    rw [prod_head hl, ← h0, Int.zero_mul] at h1
    rw [← h0]
    show 0 * _ = _
    rw [Nat.zero_mul]; omega
end Go.Proofs.Ytedfjmidcljmoaa
