/- Layer 4, put together: ShwU, ShwL. -/
import Derived.Test.YtbapgdhcbfpdoaaGreatDoorYSa
import Derived.Test.YtbapgdhcbfpdoaaGreatDoorYPf
import Derived.ChangeSlices
import Derived.Deep.Slices
/- Programs that are read of memory whose blocks' types are not known. -/
namespace Go.Proofs.YtbapgdhcbfpdoaaGreatDoor
open Go.RowKit
set_option linter.unusedVariables false
def NumU (w : World) (A : Option Addr) (ns : List Int) : Prop := 0 < ns.length → ∃ b o, A = some ⟨b, o, none⟩ ∧ b < w.heap.size ∧ ∀ i, i < ns.length → w.cell? ⟨b, o + i, none⟩ = some (.int .i64 (ns.getD i 0))
def ItU (w : World) (b o : Nat) (x : It) : Prop := w.cell? ⟨b, o, none⟩ = some (.int .i64 x.how) ∧ w.cell? ⟨b, o + 1, none⟩ = some (.int .i64 x.pl) ∧ w.cell? ⟨b, o + 2, none⟩ = some (.int .u8 x.fn) ∧ w.cell? ⟨b, o + 3, none⟩ = some (.string (bs x.nm)) ∧ ∃ A c, w.cell? ⟨b, o + 4, none⟩ = some (.slice A x.ns.length c) ∧ True ∧ NumU w A x.ns
def ItsU (w : World) (A : Option Addr) (l : List It) : Prop := 0 < l.length → ∃ b o, A = some ⟨b, o, none⟩ ∧ b < w.heap.size ∧ ∀ i, i < l.length → ItU w b (o + i * 5) (l.getD i default)
def SdU (w : World) (A : Option Addr) (l : List (List UInt8 × Int)) : Prop := 0 < l.length → ∃ b o, A = some ⟨b, o, none⟩ ∧ b < w.heap.size ∧ ∀ i, i < l.length → w.cell? ⟨b, o + i * 2, none⟩ = some (.string (bs (l.getD i default).1)) ∧ w.cell? ⟨b, o + i * 2 + 1, none⟩ = some (.int .i64 (l.getD i default).2)
def LnU (w : World) (g o : Nat) (m : Ln) : Prop := w.cell? ⟨g, o, none⟩ = some (.string (bs m.nm)) ∧ w.cell? ⟨g, o + 1, none⟩ = some (.int .i64 m.pl) ∧ ∃ A c, w.cell? ⟨g, o + 2, none⟩ = some (.slice A m.its.length c) ∧ m.its.length ≤ c ∧ ItsU w A m.its
def InU (w : World) (g o : Nat) (m : Inp) : Prop := w.cell? ⟨g, o, none⟩ = some (.string (bs m.nm)) ∧ w.cell? ⟨g, o + 1, none⟩ = some (.int .i64 m.pl) ∧ ∃ A c, w.cell? ⟨g, o + 2, none⟩ = some (.slice A m.sd.length c) ∧ m.sd.length ≤ c ∧ SdU w A m.sd
structure PU (w : World) (Ai Al : Option Addr) (p : Pg) : Prop where
  lns : 0 < p.lns.length → ∃ g o, Al = some ⟨g, o, none⟩ ∧ g < w.heap.size ∧ ∀ i, i < p.lns.length → LnU w g (o + i * 3) (p.lns.getD i default)
  ins : 0 < p.ins.length → ∃ g o, Ai = some ⟨g, o, none⟩ ∧ g < w.heap.size ∧ ∀ i, i < p.ins.length → InU w g (o + i * 3) (p.ins.getD i default)
theorem NumU.below {w w' : World} {A : Option Addr} {ns : List Int} (h : NumU w A ns) (hb : Below w.heap.size w w') : NumU w' A ns := fun hl => by
  obtain ⟨b, o, e, h1, h2⟩ := h hl
  exact ⟨b, o, e, Nat.lt_of_lt_of_le h1 hb.size, fun i hi => (cell_below hb h1 _).trans (h2 i hi)⟩
theorem ItU.below {w w' : World} {b o : Nat} {x : It} (h : ItU w b o x) (hb : Below w.heap.size w w') (hl : b < w.heap.size) : ItU w' b o x := by
  obtain ⟨h0, h1, h2, h3, A, c, h4, h5, h6⟩ := h
  exact ⟨(cell_below hb hl _).trans h0, (cell_below hb hl _).trans h1, (cell_below hb hl _).trans h2, (cell_below hb hl _).trans h3, A, c, (cell_below hb hl _).trans h4, h5, h6.below hb⟩
theorem ItsU.below {w w' : World} {A : Option Addr} {l : List It} (h : ItsU w A l) (hb : Below w.heap.size w w') : ItsU w' A l := fun hl => by
  obtain ⟨b, o, e, h1, h2⟩ := h hl
  exact ⟨b, o, e, Nat.lt_of_lt_of_le h1 hb.size, fun i hi => (h2 i hi).below hb h1⟩
theorem SdU.below {w w' : World} {A : Option Addr} {l : List (List UInt8 × Int)} (h : SdU w A l) (hb : Below w.heap.size w w') : SdU w' A l := fun hl => by
  obtain ⟨b, o, e, h1, h2⟩ := h hl
  exact ⟨b, o, e, Nat.lt_of_lt_of_le h1 hb.size, fun i hi => ⟨(cell_below hb h1 _).trans (h2 i hi).1, (cell_below hb h1 _).trans (h2 i hi).2⟩⟩
theorem LnU.below {w w' : World} {g o : Nat} {m : Ln} (h : LnU w g o m) (hb : Below w.heap.size w w') (hl : g < w.heap.size) : LnU w' g o m := by
  obtain ⟨h0, h1, A, c, h2, h3, h4⟩ := h
  exact ⟨(cell_below hb hl _).trans h0, (cell_below hb hl _).trans h1, A, c, (cell_below hb hl _).trans h2, h3, h4.below hb⟩
theorem InU.below {w w' : World} {g o : Nat} {m : Inp} (h : InU w g o m) (hb : Below w.heap.size w w') (hl : g < w.heap.size) : InU w' g o m := by
  obtain ⟨h0, h1, A, c, h2, h3, h4⟩ := h
  exact ⟨(cell_below hb hl _).trans h0, (cell_below hb hl _).trans h1, A, c, (cell_below hb hl _).trans h2, h3, h4.below hb⟩
theorem PU.below {w w' : World} {Ai Al : Option Addr} {p : Pg} (h : PU w Ai Al p) (hb : Below w.heap.size w w') : PU w' Ai Al p :=
  ⟨fun hl => by obtain ⟨g, o, e, hg, hc⟩ := h.lns hl; exact ⟨g, o, e, Nat.lt_of_lt_of_le hg hb.size, fun i hi => (hc i hi).below hb hg⟩,
   fun hl => by obtain ⟨g, o, e, hg, hc⟩ := h.ins hl; exact ⟨g, o, e, Nat.lt_of_lt_of_le hg hb.size, fun i hi => (hc i hi).below hb hg⟩⟩
theorem SdU.of {w : World} {A : Option Addr} {l : List (List UInt8 × Int)} (h : RdS w A l) : SdU w A l := fun hl => by
  obtain ⟨b, o, e, ⟨h1, _⟩, h2⟩ := h hl
  exact ⟨b, o, e, h1, h2⟩
theorem PU.empty (w : World) (Ai Al : Option Addr) : PU w Ai Al ⟨[], []⟩ := ⟨fun h => absurd h (by decide), fun h => absurd h (by decide)⟩
/-- Where two lists of items part. -/
theorem its_ne {l m : List It} {k : Nat} (h1 : k < l.length) (h2 : k < m.length) (h : zI (l.getD k default) ≠ zI (m.getD k default)) : l.map zI ≠ m.map zI := fun e => by
  apply h
  have := congrArg (fun z : List It => z[k]?) e
  simp only [List.getElem?_map, List.getElem?_eq_getElem h1, List.getElem?_eq_getElem h2, Option.map_some, Option.some.injEq] at this
  rw [List.getD_eq_getElem?_getD, List.getD_eq_getElem?_getD, List.getElem?_eq_getElem h1, List.getElem?_eq_getElem h2]
  exact this
theorem its_eq {l m : List It} (h1 : l.length = m.length) (h : ∀ k, k < l.length → zI (l.getD k default) = zI (m.getD k default)) : l.map zI = m.map zI := by
  refine List.ext_getElem (by simp [h1]) fun k hk1 hk2 => ?_
  simp only [List.length_map] at hk1 hk2
  have := h k hk1
  rw [List.getD_eq_getElem?_getD, List.getD_eq_getElem?_getD, List.getElem?_eq_getElem hk1, List.getElem?_eq_getElem hk2] at this
  simpa using this
theorem zI_iff (x y : It) : zI x = zI y ↔ x.how = y.how ∧ x.fn = y.fn ∧ x.nm = y.nm ∧ x.ns = y.ns := by
  unfold zI
  constructor
  · intro h
    have h1 := congrArg It.how h
    have h2 := congrArg It.fn h
    have h3 := congrArg It.nm h
    have h4 := congrArg It.ns h
    exact ⟨h1, h2, h3, h4⟩
  · rintro ⟨h1, h2, h3, h4⟩
    rw [h1, h2, h3, h4]
theorem ns_ne {a b : List Int} {j : Nat} (h1 : j < a.length) (h2 : j < b.length) (h : a.getD j 0 ≠ b.getD j 0) : a ≠ b := fun e => h (by rw [e])
theorem ns_eq {a b : List Int} (h1 : a.length = b.length) (h : ∀ j, j < a.length → a.getD j 0 = b.getD j 0) : a = b := by
  refine List.ext_getElem h1 fun k hk1 hk2 => ?_
  have := h k hk1
  rw [List.getD_eq_getElem?_getD, List.getD_eq_getElem?_getD, List.getElem?_eq_getElem hk1, List.getElem?_eq_getElem hk2] at this
  simpa using this
end Go.Proofs.YtbapgdhcbfpdoaaGreatDoor
/- A program that comes in. -/
namespace Go.Proofs.YtbapgdhcbfpdoaaGreatDoor
open Go.ChangeShapes Go.WideShapes Go.RowKit Go.WideElems Go.Deep
set_option linter.unusedVariables false
set_option maxRecDepth 4000
abbrev wtOk {H : Type} (d : DataW H) (e : TypeId) : Prop := (d.weights Tryz.prog e).all (· ≤ reachBytes) = true
section
variable {H : Type} {enc : TypeId × Value → H} {W : World} {held : Bool}
theorem wx_each {P : Program} {e : TypeId} : ∀ {l : List (DataW H)}, (DataW.weightsAll P e l).all (· ≤ reachBytes) = true → ∀ d ∈ l, (d.weights P e).all (· ≤ reachBytes) = true
  | [], _, d, hd => by simp at hd
  | x :: l, h, d, hd => by
    rw [DataW.weightsAll, List.all_append, Bool.and_eq_true] at h
    rcases List.mem_cons.1 hd with rfl | hd
    · exact h.1
    · exact wx_each h.2 d hd
theorem wx_skip {P : Program} {t : TypeId} {ts : List TypeId} {d : DataW H} {ds : List (DataW H)} (h : (DataW.weightsEach P (t :: ts) (d :: ds)).all (· ≤ reachBytes) = true) : (DataW.weightsEach P ts ds).all (· ≤ reachBytes) = true := by
  rw [DataW.weightsEach, List.all_append, Bool.and_eq_true] at h; exact h.2
theorem wx_head {P : Program} {t : TypeId} {ts : List TypeId} {d : DataW H} {ds : List (DataW H)} (h : (DataW.weightsEach P (t :: ts) (d :: ds)).all (· ≤ reachBytes) = true) : (d.weights P t).all (· ≤ reachBytes) = true := by
  rw [DataW.weightsEach, List.all_append, Bool.and_eq_true] at h; exact h.1
theorem wx_reach : reachBytes = 140737488351232 := rfl
theorem rng_lit {x : Int} (h : (Lit.int .i64 x).wf = true) : rng x := by
  have h1 : IntKind.i64.min = -9223372036854775808 := rfl
  have h2 : IntKind.i64.max = 9223372036854775807 := rfl
  simp only [Lit.wf, Bool.and_eq_true, decide_eq_true_eq] at h
  unfold rng
  omega
theorem rng_u8 {x : Int} (h : (Lit.int .u8 x).wf = true) : 0 ≤ x ∧ x ≤ 255 := by
  have h1 : IntKind.u8.min = 0 := rfl
  have h2 : IntKind.u8.max = 255 := rfl
  simp only [Lit.wf, Bool.and_eq_true, decide_eq_true_eq] at h
  omega
theorem cells_str : Tryz.prog.cellsOf 9 = 1 := by kernel_rfl
theorem wx_string {s : ByteArray} (h : wtOk (.lit (.string s.data.toList) : DataW H) 9) : s.size ≤ 140737488355320 := by
  unfold wtOk at h
  rw [DataW.weights] at h
  simp only [List.all_cons, List.all_nil, Bool.and_true] at h
  have h2 : s.data.toList.length ≤ reachBytes := of_decide_eq_true h
  rw [len_s, wx_reach] at h2
  omega
/-- A slice of things that come in. -/
theorem open_rows {α : Type} [Inhabited α] {ok : α → List Value → Prop} {st e : TypeId} {n : Nat} (hst : Tryz.prog.underlying st = some (.slice e)) (hn : Tryz.prog.cellsOf e = n)
    (hn0 : 0 < n) (each : ∀ {fuel : Nat} {l : List Value} {x : DataW H × List MemPlace}, DataW.trod enc Tryz.prog W 0 (fun _ => true) held fuel e l = some x → wtOk x.1 e → ∃ q : α, ok q l)
    {fuel : Nat} {cs : List Value} {x : DataW H × List MemPlace} (h : DataW.trod enc Tryz.prog W 0 (fun _ => true) held fuel st cs = some x) (hw : wtOk x.1 st) :
    ∃ (A : Option Addr) (l : List α) (c : Nat), cs = [.slice A l.length c] ∧ l.length ≤ c ∧ c ≤ 9223372036854775807 ∧ (0 < l.length → ∃ b o, A = some ⟨b, o, none⟩ ∧ b < W.heap.size ∧ ∀ i, i < l.length → ∃ vs, ok (l.getD i default) vs ∧ ∀ j, j < n → W.cell? ⟨b, o + i * n + j, none⟩ = vs[j]?) ∧ ∀ q ∈ l, ∃ vs, ok q vs := by
  rcases open_slice hst h with ⟨rfl, _⟩ | ⟨a, len, cap, m, k, D, Pl, rfl, _, hl, hm, hmm, hxe, hx⟩
  · exact ⟨none, [], 0, rfl, Nat.le_refl _, by omega, fun hl => absurd hl (by simp), fun q hq => by simp at hq⟩
  · rw [hn] at hx
    have hlm : len ≤ m := by rw [hmm]; split <;> omega
    have hwa : ∀ i, i < len → wtOk (D i) e := fun i hi => by
      have h1 := hw
      unfold wtOk at h1
      rw [hxe, DataW.weights, hst] at h1
      simp only [List.all_cons, List.all_append, Bool.and_eq_true] at h1
      exact wx_each h1.2.1 _ (List.mem_map.2 ⟨i, List.mem_range.2 hi, rfl⟩)
    have one : ∀ i, i < len → ∃ q : α, ∃ vs, ok q vs ∧ vs.length = n ∧ ∀ j, j < n → W.cell? (a.add (i * n + j)) = vs[j]? := fun i hi => by
      obtain ⟨l, h1, h2⟩ := hx i (by omega)
      obtain ⟨_, hll, hc⟩ := World.cells?_some h1
      obtain ⟨q, hq⟩ := each h2 (hwa i hi)
      exact ⟨q, l, hq, hll, fun j hj => by rw [← hc j hj, Go.Deep.add_add]⟩
    obtain ⟨q, hq⟩ := choose_lt one
    have hg : ∀ i, i < len → ((List.range len).map q).getD i default = q i := fun i hi => by
      rw [List.getD_eq_getElem?_getD, List.getElem?_map, List.getElem?_range hi]; rfl
    refine ⟨some a, (List.range len).map q, cap, by simp, by simpa using hl, by unfold maxLen at hm; omega, fun hpos => ?_, fun t ht => ?_⟩
    · have hlen : 0 < len := by simpa using hpos
      obtain ⟨vs, _, hvl, h0⟩ := hq 0 hlen
      have h0 := h0 0 hn0
      rw [List.getElem?_eq_getElem (by omega)] at h0
      obtain ⟨b, o, spot⟩ := a
      have hspot : spot = none := by simpa [Addr.add] using World.cell?_spot h0
      subst hspot
      have hblk : b < W.heap.size := by
        have := World.block_lt_of_cell? W _ h0
        rwa [add_plain] at this
      refine ⟨b, o, rfl, hblk, fun i hi => ?_⟩
      have hi' : i < len := by simpa using hi
      obtain ⟨vs, h1, _, h2⟩ := hq i hi'
      rw [hg i hi']
      refine ⟨vs, h1, fun j hj => ?_⟩
      have := h2 j hj
      rw [add_plain] at this
      rw [Nat.add_assoc]; exact this
    · obtain ⟨i, hi, rfl⟩ := List.mem_map.1 ht
      obtain ⟨vs, h1, _⟩ := hq i (List.mem_range.1 hi)
      exact ⟨vs, h1⟩
/-! ### numbers -/
def okNum (n : Int) (vs : List Value) : Prop := vs = [.int .i64 n] ∧ rng n
theorem open_num {fuel : Nat} {l : List Value} {x : DataW H × List MemPlace} (h : DataW.trod enc Tryz.prog W 0 (fun _ => true) held fuel 2 l = some x) (hw : wtOk x.1 2) : ∃ q : Int, okNum q l := by
  obtain ⟨n, e3, _, w3⟩ := DataW.trod_int Tryz.underlying2 h
  exact ⟨n, e3, rng_lit w3⟩
/-! ### sides -/
def okSd (d : List UInt8 × Int) (vs : List Value) : Prop := vs = [.string (bs d.1), .int .i64 d.2] ∧ d.1.length ≤ 140737488355320 ∧ rng d.2
theorem cells_side : Tryz.prog.cellsOf 50 = 2 := by kernel_rfl
theorem cells_i64 : Tryz.prog.cellsOf 2 = 1 := by kernel_rfl
theorem cells_int : Tryz.prog.cellsOf 3 = 1 := by kernel_rfl
theorem open_side {fuel : Nat} {l : List Value} {x : DataW H × List MemPlace} (h : DataW.trod enc Tryz.prog W 0 (fun _ => true) held fuel 50 l = some x) (hw : wtOk x.1 50) : ∃ q : List UInt8 × Int, okSd q l := by
  obtain ⟨xs, n, _, hxe, hl, hx, hf⟩ := DataW.trod_struct Tryz.underlying50 h
  rw [cells_side] at hl
  have hx2 : xs.length = 2 := hx
  have f0 : DataW.trod enc Tryz.prog W 0 (fun _ => true) held n 9 ((l.drop 0).take (Tryz.prog.cellsOf 9)) = xs[0]? := hf 0 _ rfl
  have f1 : DataW.trod enc Tryz.prog W 0 (fun _ => true) held n 2 ((l.drop 1).take (Tryz.prog.cellsOf 2)) = xs[1]? := hf 1 _ rfl
  rw [cells_str] at f0
  rw [cells_i64] at f1
  match l, hl, xs, hx2 with
  | [v0, v1], _, [y0, y1], _ =>
    simp at f0 f1
    obtain ⟨s, e0, e0', _⟩ := DataW.trod_string Tryz.underlying9 f0
    obtain ⟨n, e1, _, w1⟩ := DataW.trod_int Tryz.underlying2 f1
    simp at e0 e1
    subst e0 e1
    unfold wtOk at hw
    rw [hxe] at hw
    simp only [List.map_cons, List.map_nil, e0'] at hw
    rw [DataW.weights, Tryz.underlying50] at hw
    have hs := wx_string (wx_head hw)
    exact ⟨(s.data.toList, n), by rw [bs_of], by rw [len_s]; exact hs, rng_lit w1⟩

/-! ### items -/
theorem cells_item : Tryz.prog.cellsOf 37 = 5 := by kernel_rfl
theorem cells_fn : Tryz.prog.cellsOf 34 = 1 := by kernel_rfl
theorem cells_nums : Tryz.prog.cellsOf 35 = 1 := by kernel_rfl
structure ItB (x : It) : Prop where
  how : rng x.how
  fn : 0 ≤ x.fn ∧ x.fn ≤ 255
  nm : x.nm.length ≤ 140737488355320
  ns : ∀ n ∈ x.ns, rng n
  len : x.ns.length ≤ 9223372036854775807
def okIt (W : World) (x : It) (vs : List Value) : Prop := ∃ A c, vs = [.int .i64 x.how, .int .i64 x.pl, .int .u8 x.fn, .string (bs x.nm), .slice A x.ns.length c] ∧ x.ns.length ≤ c ∧ c ≤ 9223372036854775807 ∧ NumU W A x.ns ∧ ItB x
theorem open_item {fuel : Nat} {l : List Value} {x : DataW H × List MemPlace} (h : DataW.trod enc Tryz.prog W 0 (fun _ => true) held fuel 37 l = some x) (hw : wtOk x.1 37) : ∃ q : It, okIt W q l := by
  obtain ⟨xs, n, _, hxe, hl, hx, hf⟩ := DataW.trod_struct Tryz.underlying37 h
  rw [cells_item] at hl
  have hx2 : xs.length = 5 := hx
  have f0 : DataW.trod enc Tryz.prog W 0 (fun _ => true) held n 3 ((l.drop 0).take (Tryz.prog.cellsOf 3)) = xs[0]? := hf 0 _ rfl
  have f1 : DataW.trod enc Tryz.prog W 0 (fun _ => true) held n 3 ((l.drop 1).take (Tryz.prog.cellsOf 3)) = xs[1]? := hf 1 _ rfl
  have f2 : DataW.trod enc Tryz.prog W 0 (fun _ => true) held n 34 ((l.drop 2).take (Tryz.prog.cellsOf 34)) = xs[2]? := hf 2 _ rfl
  have f3 : DataW.trod enc Tryz.prog W 0 (fun _ => true) held n 9 ((l.drop 3).take (Tryz.prog.cellsOf 9)) = xs[3]? := hf 3 _ rfl
  have f4 : DataW.trod enc Tryz.prog W 0 (fun _ => true) held n 35 ((l.drop 4).take (Tryz.prog.cellsOf 35)) = xs[4]? := hf 4 _ rfl
  rw [cells_int] at f0 f1
  rw [cells_fn] at f2
  rw [cells_str] at f3
  rw [cells_nums] at f4
  match l, hl, xs, hx2 with
  | [v0, v1, v2, v3, v4], _, [y0, y1, y2, y3, y4], _ =>
    simp at f0 f1 f2 f3 f4
    obtain ⟨n0, e0, _, w0⟩ := DataW.trod_int Tryz.underlying3 f0
    obtain ⟨n1, e1, _, w1⟩ := DataW.trod_int Tryz.underlying3 f1
    obtain ⟨n2, e2, _, w2⟩ := DataW.trod_int Tryz.underlying34 f2
    obtain ⟨s, e3, e3', _⟩ := DataW.trod_string Tryz.underlying9 f3
    unfold wtOk at hw
    rw [hxe] at hw
    simp only [List.map_cons, List.map_nil, e3'] at hw
    rw [DataW.weights, Tryz.underlying37] at hw
    have hs := wx_string (wx_head (wx_skip (wx_skip (wx_skip hw))))
    obtain ⟨A, ns, c, e4, hle, hc, hb, hall⟩ := open_rows (ok := okNum) Tryz.underlying35 cells_i64 (by decide) open_num f4 (wx_head (wx_skip (wx_skip (wx_skip (wx_skip hw)))))
    simp at e0 e1 e2 e3 e4
    subst e0 e1 e2 e3 e4
    refine ⟨⟨n0, n1, n2, s.data.toList, ns⟩, A, c, by rw [bs_of], hle, hc, fun hl => ?_, ⟨rng_lit w0, rng_u8 w2, by rw [len_s]; exact hs, fun n hn => ?_, Nat.le_trans hle hc⟩⟩
    · obtain ⟨b, o, e, hbk, hi⟩ := hb hl
      refine ⟨b, o, e, hbk, fun i hil => ?_⟩
      obtain ⟨vs, ⟨rfl, _⟩, hj⟩ := hi i hil
      have := hj 0 (by decide)
      simp only [Nat.mul_one, Nat.add_zero] at this
      exact this
    · obtain ⟨_, _, h2⟩ := hall n hn
      exact h2
/-! ### lines -/
theorem cells_line : Tryz.prog.cellsOf 33 = 3 := by kernel_rfl
theorem cells_items : Tryz.prog.cellsOf 31 = 1 := by kernel_rfl
structure LnB (m : Ln) : Prop where
  nm : m.nm.length ≤ 140737488355320
  its : ∀ x ∈ m.its, ItB x
  len : m.its.length ≤ 9223372036854775807
def okLn (W : World) (m : Ln) (vs : List Value) : Prop := ∃ A c, vs = [.string (bs m.nm), .int .i64 m.pl, .slice A m.its.length c] ∧ m.its.length ≤ c ∧ c ≤ 9223372036854775807 ∧ ItsU W A m.its ∧ LnB m
theorem open_line {fuel : Nat} {l : List Value} {x : DataW H × List MemPlace} (h : DataW.trod enc Tryz.prog W 0 (fun _ => true) held fuel 33 l = some x) (hw : wtOk x.1 33) : ∃ q : Ln, okLn W q l := by
  obtain ⟨xs, n, _, hxe, hl, hx, hf⟩ := DataW.trod_struct Tryz.underlying33 h
  rw [cells_line] at hl
  have hx2 : xs.length = 3 := hx
  have f0 : DataW.trod enc Tryz.prog W 0 (fun _ => true) held n 9 ((l.drop 0).take (Tryz.prog.cellsOf 9)) = xs[0]? := hf 0 _ rfl
  have f1 : DataW.trod enc Tryz.prog W 0 (fun _ => true) held n 3 ((l.drop 1).take (Tryz.prog.cellsOf 3)) = xs[1]? := hf 1 _ rfl
  have f2 : DataW.trod enc Tryz.prog W 0 (fun _ => true) held n 31 ((l.drop 2).take (Tryz.prog.cellsOf 31)) = xs[2]? := hf 2 _ rfl
  rw [cells_str] at f0
  rw [cells_int] at f1
  rw [cells_items] at f2
  match l, hl, xs, hx2 with
  | [v0, v1, v2], _, [y0, y1, y2], _ =>
    simp at f0 f1 f2
    obtain ⟨s, e0, e0', _⟩ := DataW.trod_string Tryz.underlying9 f0
    obtain ⟨n1, e1, _, w1⟩ := DataW.trod_int Tryz.underlying3 f1
    unfold wtOk at hw
    rw [hxe] at hw
    simp only [List.map_cons, List.map_nil, e0'] at hw
    rw [DataW.weights, Tryz.underlying33] at hw
    have hs := wx_string (wx_head hw)
    obtain ⟨A, is, c, e2, hle, hc, hb, hall⟩ := open_rows (ok := okIt W) Tryz.underlying31 cells_item (by decide) open_item f2 (wx_head (wx_skip (wx_skip hw)))
    simp at e0 e1 e2
    subst e0 e1 e2
    refine ⟨⟨s.data.toList, n1, is⟩, A, c, by rw [bs_of], hle, hc, fun hl => ?_, ⟨by rw [len_s]; exact hs, fun n hn => ?_, Nat.le_trans hle hc⟩⟩
    · obtain ⟨b, o, e, hbk, hi⟩ := hb hl
      refine ⟨b, o, e, hbk, fun i hil => ?_⟩
      obtain ⟨vs, ⟨A', c', rfl, h1, h2, h3, h4⟩, hj⟩ := hi i hil
      exact ⟨hj 0 (by decide), hj 1 (by decide), hj 2 (by decide), hj 3 (by decide), A', c', hj 4 (by decide), trivial, h3⟩
    · obtain ⟨_, _, _, _, _, _, _, h2⟩ := hall n hn
      exact h2
/-! ### inputs -/
theorem cells_input : Tryz.prog.cellsOf 48 = 3 := by kernel_rfl
theorem cells_sides : Tryz.prog.cellsOf 46 = 1 := by kernel_rfl
structure InB (m : Inp) : Prop where
  nm : m.nm.length ≤ 140737488355320
  sd : ∀ x ∈ m.sd, x.1.length ≤ 140737488355320 ∧ rng x.2
  len : m.sd.length ≤ 9223372036854775807
def okIn (W : World) (m : Inp) (vs : List Value) : Prop := ∃ A c, vs = [.string (bs m.nm), .int .i64 m.pl, .slice A m.sd.length c] ∧ m.sd.length ≤ c ∧ c ≤ 9223372036854775807 ∧ SdU W A m.sd ∧ InB m
theorem open_input {fuel : Nat} {l : List Value} {x : DataW H × List MemPlace} (h : DataW.trod enc Tryz.prog W 0 (fun _ => true) held fuel 48 l = some x) (hw : wtOk x.1 48) : ∃ q : Inp, okIn W q l := by
  obtain ⟨xs, n, _, hxe, hl, hx, hf⟩ := DataW.trod_struct Tryz.underlying48 h
  rw [cells_input] at hl
  have hx2 : xs.length = 3 := hx
  have f0 : DataW.trod enc Tryz.prog W 0 (fun _ => true) held n 9 ((l.drop 0).take (Tryz.prog.cellsOf 9)) = xs[0]? := hf 0 _ rfl
  have f1 : DataW.trod enc Tryz.prog W 0 (fun _ => true) held n 3 ((l.drop 1).take (Tryz.prog.cellsOf 3)) = xs[1]? := hf 1 _ rfl
  have f2 : DataW.trod enc Tryz.prog W 0 (fun _ => true) held n 46 ((l.drop 2).take (Tryz.prog.cellsOf 46)) = xs[2]? := hf 2 _ rfl
  rw [cells_str] at f0
  rw [cells_int] at f1
  rw [cells_sides] at f2
  match l, hl, xs, hx2 with
  | [v0, v1, v2], _, [y0, y1, y2], _ =>
    simp at f0 f1 f2
    obtain ⟨s, e0, e0', _⟩ := DataW.trod_string Tryz.underlying9 f0
    obtain ⟨n1, e1, _, w1⟩ := DataW.trod_int Tryz.underlying3 f1
    unfold wtOk at hw
    rw [hxe] at hw
    simp only [List.map_cons, List.map_nil, e0'] at hw
    rw [DataW.weights, Tryz.underlying48] at hw
    have hs := wx_string (wx_head hw)
    obtain ⟨A, is, c, e2, hle, hc, hb, hall⟩ := open_rows (ok := okSd) Tryz.underlying46 cells_side (by decide) open_side f2 (wx_head (wx_skip (wx_skip hw)))
    simp at e0 e1 e2
    subst e0 e1 e2
    refine ⟨⟨s.data.toList, n1, is⟩, A, c, by rw [bs_of], hle, hc, fun hl => ?_, ⟨by rw [len_s]; exact hs, fun n hn => ?_, Nat.le_trans hle hc⟩⟩
    · obtain ⟨b, o, e, hbk, hi⟩ := hb hl
      refine ⟨b, o, e, hbk, fun i hil => ?_⟩
      obtain ⟨vs, ⟨rfl, h1, h2⟩, hj⟩ := hi i hil
      exact ⟨hj 0 (by decide), hj 1 (by decide)⟩
    · obtain ⟨_, _, h2⟩ := hall n hn
      exact h2
/-! ### programs -/
theorem cells_program : Tryz.prog.cellsOf 25 = 2 := by kernel_rfl
theorem cells_lines : Tryz.prog.cellsOf 23 = 1 := by kernel_rfl
theorem cells_inputs : Tryz.prog.cellsOf 22 = 1 := by kernel_rfl
structure PgB (p : Pg) : Prop where
  ins : ∀ x ∈ p.ins, InB x
  lns : ∀ x ∈ p.lns, LnB x
  lins : p.ins.length ≤ 9223372036854775807
  llns : p.lns.length ≤ 9223372036854775807
theorem PgB.rng {p : Pg} (h : PgB p) : PgR p := ⟨fun m hm x hx n hn => ((h.lns m hm).its x hx).ns n hn, fun x hx d hd => ((h.ins x hx).sd d hd).2⟩
theorem open_program {fuel : Nat} {l : List Value} {x : DataW H × List MemPlace} (h : DataW.trod enc Tryz.prog W 0 (fun _ => true) held fuel 25 l = some x) (hw : wtOk x.1 25) :
    ∃ (p : Pg) (Ai Al : Option Addr) (ci cl : Nat), l = [.slice Ai p.ins.length ci, .slice Al p.lns.length cl] ∧ p.ins.length ≤ ci ∧ p.lns.length ≤ cl ∧ ci ≤ 9223372036854775807 ∧ cl ≤ 9223372036854775807 ∧ PU W Ai Al p ∧ PgB p := by
  obtain ⟨xs, n, _, hxe, hl, hx, hf⟩ := DataW.trod_struct Tryz.underlying25 h
  rw [cells_program] at hl
  have hx2 : xs.length = 2 := hx
  have f0 : DataW.trod enc Tryz.prog W 0 (fun _ => true) held n 22 ((l.drop 0).take (Tryz.prog.cellsOf 22)) = xs[0]? := hf 0 _ rfl
  have f1 : DataW.trod enc Tryz.prog W 0 (fun _ => true) held n 23 ((l.drop 1).take (Tryz.prog.cellsOf 23)) = xs[1]? := hf 1 _ rfl
  rw [cells_inputs] at f0
  rw [cells_lines] at f1
  match l, hl, xs, hx2 with
  | [v0, v1], _, [y0, y1], _ =>
    simp at f0 f1
    unfold wtOk at hw
    rw [hxe] at hw
    simp only [List.map_cons, List.map_nil] at hw
    rw [DataW.weights, Tryz.underlying25] at hw
    obtain ⟨Ai, is, ci, e0, hle0, hc0, hb0, hall0⟩ := open_rows (ok := okIn W) Tryz.underlying22 cells_input (by decide) open_input f0 (wx_head hw)
    obtain ⟨Al, ls, cl, e1, hle1, hc1, hb1, hall1⟩ := open_rows (ok := okLn W) Tryz.underlying23 cells_line (by decide) open_line f1 (wx_head (wx_skip hw))
    simp at e0 e1
    subst e0 e1
    refine ⟨⟨is, ls⟩, Ai, Al, ci, cl, rfl, hle0, hle1, hc0, hc1, ⟨fun hl => ?_, fun hl => ?_⟩, ⟨fun x hx => ?_, fun x hx => ?_, Nat.le_trans hle0 hc0, Nat.le_trans hle1 hc1⟩⟩
    · obtain ⟨b, o, e, hbk, hi⟩ := hb1 hl
      refine ⟨b, o, e, hbk, fun i hil => ?_⟩
      obtain ⟨vs, ⟨A', c', rfl, h1, h2, h3, h4⟩, hj⟩ := hi i hil
      exact ⟨hj 0 (by decide), hj 1 (by decide), A', c', hj 2 (by decide), h1, h3⟩
    · obtain ⟨b, o, e, hbk, hi⟩ := hb0 hl
      refine ⟨b, o, e, hbk, fun i hil => ?_⟩
      obtain ⟨vs, ⟨A', c', rfl, h1, h2, h3, h4⟩, hj⟩ := hi i hil
      exact ⟨hj 0 (by decide), hj 1 (by decide), A', c', hj 2 (by decide), h1, h3⟩
    · obtain ⟨_, _, _, _, _, _, _, h2⟩ := hall0 x hx
      exact h2
    · obtain ⟨_, _, _, _, _, _, _, h2⟩ := hall1 x hx
      exact h2
end
end Go.Proofs.YtbapgdhcbfpdoaaGreatDoor
