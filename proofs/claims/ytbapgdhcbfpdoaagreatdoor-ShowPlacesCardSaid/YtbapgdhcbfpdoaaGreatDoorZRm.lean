/- Sides that come in are few enough. -/
import Derived.Test.YtbapgdhcbfpdoaaGreatDoorZSq
namespace Go.Proofs.YtbapgdhcbfpdoaaGreatDoor
open Go.ChangeShapes Go.WideShapes Go.ChangeAt Go.RowKit Go.WideElems Go.Deep
set_option linter.unusedVariables false
set_option maxRecDepth 4000
section
variable {H : Type} {enc : TypeId × Value → H} {W : World} {held : Bool}
theorem slice_lenk {st e : TypeId} (k : Nat) (hst : Tryz.prog.underlying st = some (.slice e)) (hby : k ≤ Tryz.prog.bytesOf e) {fuel : Nat} {cs : List Value} {x : DataW H × List MemPlace} (h : DataW.trod enc Tryz.prog W 0 (fun _ => true) held fuel st cs = some x) (hw : wtOk x.1 st) {A : Option Addr} {n c : Nat} (hc : cs = [.slice A n c]) : n * k ≤ 140737488351232 := by
  rcases Go.Deep.open_slice hst h with ⟨h1, _⟩ | ⟨a, len, cap, m, k', D, Pl, h1, _, hl, hm, hmm, hxe, hx⟩
  · rw [h1] at hc
    simp at hc
    rw [← hc.2.1]; omega
  · rw [h1] at hc
    simp at hc
    obtain ⟨_, rfl, _⟩ := hc
    have h2 := hw
    unfold wtOk at h2
    rw [hxe, DataW.weights, hst] at h2
    simp only [List.all_cons, Bool.and_eq_true] at h2
    have h3 := of_decide_eq_true h2.1
    rw [wx_reach] at h3
    simp only [List.length_map, List.length_range] at h3
    exact Nat.le_trans (Nat.mul_le_mul (Nat.le_add_right _ _) hby) h3
theorem bytesSd : 24 ≤ Tryz.prog.bytesOf 50 := of_decide_eq_true (by kernel_rfl)
theorem open_input2 {fuel : Nat} {l : List Value} {x : DataW H × List MemPlace} (h : DataW.trod enc Tryz.prog W 0 (fun _ => true) held fuel 48 l = some x) (hw : wtOk x.1 48) : ∃ q : Inp, okIn W q l ∧ q.sd.length * 24 ≤ 140737488351232 := by
  obtain ⟨q, hq⟩ := open_input h hw
  refine ⟨q, hq, ?_⟩
  obtain ⟨A, c, rfl, _⟩ := hq
  obtain ⟨xs, n, _, hxe, hl, hx, hf⟩ := DataW.trod_struct Tryz.underlying48 h
  have hx2 : xs.length = 3 := hx
  have f2 : DataW.trod enc Tryz.prog W 0 (fun _ => true) held n 46 (([Value.string (bs q.nm), .int .i64 q.pl, .slice A q.sd.length c].drop 2).take (Tryz.prog.cellsOf 46)) = xs[2]? := hf 2 _ rfl
  rw [cells_sides] at f2
  match xs, hx2 with
  | [y0, y1, y2], _ =>
    simp at f2
    unfold wtOk at hw
    rw [hxe] at hw
    simp only [List.map_cons, List.map_nil] at hw
    rw [DataW.weights, Tryz.underlying48] at hw
    exact slice_lenk 24 Tryz.underlying46 bytesSd f2 (wx_head (wx_skip (wx_skip hw))) rfl
theorem sides_few {fuel : Nat} {l : List Value} {x : DataW H × List MemPlace} (h : DataW.trod enc Tryz.prog W 0 (fun _ => true) held fuel 25 l = some x) (hw : wtOk x.1 25) {p : Pg} {Ai Al : Option Addr} {ci m cl : Nat} (hc : l = [.slice Ai p.ins.length ci, .slice Al m cl]) (hp : PU W Ai Al p) : ∀ y ∈ p.ins, y.sd.length * 24 ≤ 140737488351232 := by
  obtain ⟨xs, n, _, hxe, hl, hx, hf⟩ := DataW.trod_struct Tryz.underlying25 h
  have hx2 : xs.length = 2 := hx
  have f0 : DataW.trod enc Tryz.prog W 0 (fun _ => true) held n 22 ((l.drop 0).take (Tryz.prog.cellsOf 22)) = xs[0]? := hf 0 _ rfl
  rw [cells_inputs] at f0
  match xs, hx2 with
  | [y0, y1], _ =>
    subst hc
    simp at f0
    unfold wtOk at hw
    rw [hxe] at hw
    simp only [List.map_cons, List.map_nil] at hw
    rw [DataW.weights, Tryz.underlying25] at hw
    obtain ⟨A, is, c, e0, _, _, hb, _⟩ := open_rows (ok := fun (q : Inp) vs => okIn W q vs ∧ q.sd.length * 24 ≤ 140737488351232) Tryz.underlying22 cells_input (by decide) open_input2 f0 (wx_head hw)
    simp at e0
    obtain ⟨rfl, hlen, rfl⟩ := e0
    intro y hy
    obtain ⟨i, hi, rfl⟩ := List.mem_iff_getElem.1 hy
    obtain ⟨g, o, rfl, _, hu⟩ := hp.ins (by omega)
    obtain ⟨b, o', e, _, hv⟩ := hb (by omega)
    injection e with e
    injection e with e1 e2 _
    subst e1 e2
    obtain ⟨vs, ⟨⟨A', c', rfl, _⟩, hle⟩, hj⟩ := hv i (by omega)
    obtain ⟨_, _, A2, c2, h2, _⟩ := hu i hi
    have h3 := hj 2 (by decide)
    rw [h2] at h3
    simp at h3
    have h4 : p.ins[i].sd.length = (is.getD i default).sd.length := by simpa [List.getD_eq_getElem?_getD, List.getElem?_eq_getElem hi] using h3.2.1
    rw [h4]; exact hle
theorem open_pa2 {r : Go.Reach} {b0 : Nat} {v : Value} {d : DataW H} {pl : List MemPlace} {ts : List TypeId} {ds : List (DataW H)} (hval : Value.okWide Tryz.prog W r b0 25 v) (h : DataW.Trod enc Tryz.prog W 0 (fun _ => true) held 25 v d pl)
    (hw : (DataW.weightsEach Tryz.prog (25 :: ts) (d :: ds)).all (· ≤ reachBytes) = true) : ∃ (p : Pg) (Ai Al : Option Addr) (ci cl : Nat), v = pgV Ai p.ins.length ci Al p.lns.length cl ∧ PA W p Ai Al p.ins.length ci p.lns.length cl ∧ ∀ y ∈ p.ins, y.sd.length * 24 ≤ 140737488351232 := by
  obtain ⟨cs, rfl, _⟩ := okWide_struct Tryz.underlying25 hval
  obtain ⟨fuel, hf⟩ := h
  have hw1 : wtOk d 25 := wt_head hw
  obtain ⟨p, Ai, Al, ci, cl, e, h1, h2, h3, h4, h5, h6⟩ := open_program hf hw1
  have hcs : cs = #[.slice Ai p.ins.length ci, .slice Al p.lns.length cl] := Array.toList_inj.1 (by simpa [Value.cells] using e)
  have hlen := prog_len hf hw1 e
  exact ⟨p, Ai, Al, ci, cl, by rw [hcs], ⟨rfl, rfl, h5, h6, h1, h2, by omega⟩, sides_few hf hw1 e h5⟩
end
end Go.Proofs.YtbapgdhcbfpdoaaGreatDoor
