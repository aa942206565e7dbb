/- What laws over lists are lifted by: the world below the call's own blocks is as it was; slices of monomials and of numbers opened. -/
import Derived.ChangeSame
import Derived.ChangeSlices
import Derived.Deep.Slices
import Derived.Test.YtogflbpphacokaaLift
import Derived.Test.YtogflbpphacokaaPolyLA
namespace Go.Proofs.Ytogflbpphacokaa
open Go.ChangeShapes Go.WideShapes Go.ChangeAt Go.RowKit Go.WideElems Go.Deep

theorem lawArgsB {H : Type} {enc : TypeId × Value → H} {W W' : World} (hg : Below W.heap.size W W') {sp : Nat → Bool} : ∀ {ts : List TypeId} {vs : List Value} {ds : List (DataW H)} {p : List MemPlace},
    (ts.all fun t => Try.prog.readableRec t && decide (t < Try.prog.types.size)) = true → DataW.TrodAll enc Try.prog W 0 (fun _ => true) true ts vs ds p → (∀ q ∈ p, q.block < W.heap.size) → (∀ q ∈ p, sp q.block = true) → DataW.TrodAll enc Try.prog W' 0 sp true ts vs ds p := by
  intro ts
  induction ts with
  | nil =>
    intro vs ds p _ h _ _
    cases vs <;> cases ds <;> simp only [DataW.TrodAll] at h ⊢ <;> exact h
  | cons t ts ih =>
    intro vs ds p hr h hlt hs
    cases vs with
    | nil => exact h.elim
    | cons v vs =>
      cases ds with
      | nil => exact h.elim
      | cons d ds =>
        obtain ⟨p0, q0, h0, h1, rfl⟩ := h
        rw [List.all_cons, Bool.and_eq_true, Bool.and_eq_true, decide_eq_true_eq] at hr
        exact ⟨p0, q0, Trod_stays lawLaid hr.1.1 hr.1.2 h0 (fun q hq => hg.same (hlt q (List.mem_append_left _ hq))) (fun q hq => hs q (List.mem_append_left _ hq)),
          ih hr.2 h1 (fun q hq => hlt q (List.mem_append_right _ hq)) (fun q hq => hs q (List.mem_append_right _ hq)), rfl⟩
/-- A law's last step: it answers a value without places; its arguments read as before; below the call's own blocks nothing has turned. -/
theorem lawPost {H : Type} {enc : TypeId × Value → H} {P : Program} {f : Func} {s : ChangeSpec} {a b c d : Bool} {W W' : World} {args : Array Value} {v : Value} {ds gs : List (DataW H)} {before pa pv : List MemPlace}
    (hW : DataW.Whole enc P f.params.toList s.vars a W args.toList ds gs before) (hb : Below W.heap.size W W') (hps : before = pa ++ pv)
    (hres : ∀ (n : Nat) (sp : Nat → Bool) (hd : Bool), DataW.TrodAll enc P W' n sp hd f.resultTypes.toList (v.resultList f.resultTypes.size) (s.fn H (ds ++ gs)).results [])
    (hargs : ∀ sp : Nat → Bool, (∀ p ∈ before, sp p.block = true) → DataW.TrodAll enc P W' 0 sp true f.params.toList args.toList (s.fn H (ds ++ gs)).args pa)
    (hvars : ∀ sp : Nat → Bool, (∀ p ∈ before, sp p.block = true) → DataW.TrodVars enc P W' sp s.vars (s.fn H (ds ++ gs)).vars pv)
    (hok : ∀ (j : Nat) (t : TypeId) (r : Value), f.resultTypes[j]? = some t → (v.resultList f.resultTypes.size)[j]? = some r → Value.okWide P W' .any 0 t r) :
    s.post enc P f a b c d W args v W' := by
  have hlt := hW.lt
  have hlow : ∀ p ∈ before, (fun k => decide (k < W.heap.size)) p.block = true := fun p hp => decide_eq_true (hlt p hp)
  refine ⟨ds, gs, before, [], pa, pv, hW, hres _ _ _, hargs _ hlow, hvars _ hlow, World.keptBut_mono (fun p hp => ⟨hp, by rw [hps] at hp; exact Or.inr (List.mem_append.1 hp)⟩) (hb.frame (· ∈ before)), fun _ => ?_⟩
  obtain ⟨_, _, _, _, _, hfz, hnd⟩ := hW
  refine ⟨hok, _, _, ([] ++ pa) ++ pv, ⟨[] ++ pa, pv, trodAll_append (hargs _ (fun _ _ => rfl)) (hres _ _ _), hvars _ (fun _ _ => rfl), rfl, fun k off hp => ?_, fun ha => ?_⟩, fun p hp _ => ?_⟩
  · have hmem : MemPlace.cell k off ∈ before := by rw [hps]; simpa using hp
    rw [hb.frozen (hlt _ hmem)]
    exact hfz k off hmem
  · have := hnd ha
    rw [hps] at this
    simpa using this
  · rw [hps]; simpa using hp

section
variable {H : Type} {enc : TypeId × Value → H} {W : World} {base : Nat} {sp : Nat → Bool} {held : Bool}
theorem cellsOf44 : Try.prog.cellsOf 44 = 7 := by kernel_rfl
theorem cellsOf42 : Try.prog.cellsOf 42 = 6 := by kernel_rfl
theorem cellsOf2 : Try.prog.cellsOf 2 = 1 := by kernel_rfl
theorem rng_i64 {x : Int} (h : (Lit.int .i64 x).wf = true) : -9223372036854775808 ≤ x ∧ x ≤ 9223372036854775807 := by
  have h1 : IntKind.i64.min = -9223372036854775808 := rfl
  have h2 : IntKind.i64.max = 9223372036854775807 := rfl
  simp only [Lit.wf, Bool.and_eq_true, decide_eq_true_eq] at h
  omega
theorem rng_u8 {x : Int} (h : (Lit.int .u8 x).wf = true) : 0 ≤ x ∧ x ≤ 255 := by
  have h1 : IntKind.u8.min = 0 := rfl
  have h2 : IntKind.u8.max = 255 := rfl
  simp only [Lit.wf, Bool.and_eq_true, decide_eq_true_eq] at h
  omega
theorem open_e {fuel : Nat} {l : List Value} {x : DataW H × List MemPlace} (h : DataW.trod enc Try.prog W base sp held fuel 42 l = some x) : ∃ e0 e1 e2 e3 e4 e5 : Int, l = [.int .u8 e0, .int .u8 e1, .int .u8 e2, .int .u8 e3, .int .u8 e4, .int .u8 e5] ∧ (0 ≤ e0 ∧ e0 ≤ 255) ∧ (0 ≤ e1 ∧ e1 ≤ 255) ∧ (0 ≤ e2 ∧ e2 ≤ 255) ∧ (0 ≤ e3 ∧ e3 ≤ 255) ∧ (0 ≤ e4 ∧ e4 ≤ 255) ∧ (0 ≤ e5 ∧ e5 ≤ 255) := by
  obtain ⟨xs, m, _, _, hl, hx, hf⟩ := DataW.trod_array Try.underlying42 h
  rw [cellsOf42] at hl
  rw [cellsOf5] at hf
  have each : ∀ i, i < 6 → ∃ e : Int, (l.drop (i * 1)).take 1 = [.int .u8 e] ∧ 0 ≤ e ∧ e ≤ 255 := fun i hi => by
    have h1 := hf i hi
    rw [List.getElem?_eq_getElem (by omega)] at h1
    obtain ⟨e, he, _, hw⟩ := DataW.trod_int Try.underlying5 h1
    exact ⟨e, he, rng_u8 hw⟩
  match l, hl with
  | [c0, c1, c2, c3, c4, c5], _ =>
    obtain ⟨e0, h0, w0⟩ := each 0 (by omega)
    obtain ⟨e1, h1, w1⟩ := each 1 (by omega)
    obtain ⟨e2, h2, w2⟩ := each 2 (by omega)
    obtain ⟨e3, h3, w3⟩ := each 3 (by omega)
    obtain ⟨e4, h4, w4⟩ := each 4 (by omega)
    obtain ⟨e5, h5, w5⟩ := each 5 (by omega)
    simp at h0 h1 h2 h3 h4 h5
    subst h0 h1 h2 h3 h4 h5
    exact ⟨e0, e1, e2, e3, e4, e5, rfl, w0, w1, w2, w3, w4, w5⟩
theorem open_mo {fuel : Nat} {l : List Value} {x : DataW H × List MemPlace} (h : DataW.trod enc Try.prog W base sp held fuel 44 l = some x) : ∃ m : Mo, m.wf ∧ l = m.cells := by
  obtain ⟨xs, n, _, _, hl, hx, hf⟩ := DataW.trod_struct Try.underlying44 h
  rw [cellsOf44] at hl
  have f0 : DataW.trod enc Try.prog W base sp held n 2 ((l.drop 0).take (Try.prog.cellsOf 2)) = xs[0]? := hf 0 _ rfl
  have f1 : DataW.trod enc Try.prog W base sp held n 42 ((l.drop 1).take (Try.prog.cellsOf 42)) = xs[1]? := hf 1 _ rfl
  rw [cellsOf2] at f0
  rw [cellsOf42] at f1
  have hx2 : xs.length = 2 := hx
  rw [List.getElem?_eq_getElem (by omega)] at f0 f1
  obtain ⟨n0, h0, _, hw⟩ := DataW.trod_int Try.underlying2 f0
  obtain ⟨e0, e1, e2, e3, e4, e5, h1, w0, w1, w2, w3, w4, w5⟩ := open_e f1
  match l, hl with
  | [c0, c1, c2, c3, c4, c5, c6], _ =>
    simp at h0 h1
    obtain ⟨rfl, rfl, rfl, rfl, rfl, rfl⟩ := h1
    subst h0
    exact ⟨⟨n0, e0, e1, e2, e3, e4, e5⟩, Mo.wf_mk (rng_i64 hw) w0 w1 w2 w3 w4 w5, rfl⟩
/-- A slice of monomials that comes in. -/
theorem open_poly {fuel : Nat} {cs : List Value} {x : DataW H × List MemPlace} (h : DataW.trod enc Try.prog W 0 (fun _ => true) held fuel 22 cs = some x) : ∃ (A : Option Addr) (l : List Mo) (c : Nat), cs = [.slice A l.length c] ∧ Rd W W.heap.size A l ∧ l.length ≤ maxLen := by
  rcases open_slice Try.underlying22 h with ⟨rfl, _⟩ | ⟨a, len, cap, m, n, D, Pl, rfl, _, hl, hm, hmm, _, hx⟩
  · exact ⟨none, [], 0, rfl, ⟨fun m hm => by simp at hm, fun hl => by simp at hl⟩, by unfold maxLen; simp⟩
  · rw [cellsOf44] at hx
    have hlm : len ≤ m := by rw [hmm]; split <;> omega
    have each : ∀ i, i < m → ∃ q : Mo, q.wf ∧ ∀ j, j < 7 → W.cell? (a.add (i * 7 + j)) = some (q.cell j) := fun i hi => by
      obtain ⟨l, h1, h2⟩ := hx i hi
      obtain ⟨_, _, hc⟩ := World.cells?_some h1
      obtain ⟨q, hq, rfl⟩ := open_mo h2
      refine ⟨q, hq, fun j hj => ?_⟩
      have := hc j hj
      rw [Go.Deep.add_add] at this
      rw [this]
      match j, hj with
      | 0, _ => rfl
      | 1, _ => rfl
      | 2, _ => rfl
      | 3, _ => rfl
      | 4, _ => rfl
      | 5, _ => rfl
      | 6, _ => rfl
    obtain ⟨q, hq⟩ := choose_lt each
    have hn : ∀ i, i < len → nth ((List.range len).map q) i = q i := fun i hi => by
      unfold nth; rw [List.getD_eq_getElem?_getD, List.getElem?_map, List.getElem?_range hi]; rfl
    refine ⟨some a, (List.range len).map q, cap, by simp, ⟨fun x hx => ?_, fun hpos => ?_⟩, by simp; omega⟩
    · obtain ⟨i, hi, rfl⟩ := List.mem_map.1 hx
      exact (hq i (by have := List.mem_range.1 hi; omega)).1
    · have hlen : 0 < len := by simpa using hpos
      have h0 := (hq 0 (by omega)).2 0 (by omega)
      obtain ⟨b, o, spot⟩ := a
      have hspot : spot = none := by simpa [Addr.add] using World.cell?_spot h0
      subst hspot
      have hblk : b < W.heap.size := by
        have := World.block_lt_of_cell? W _ h0
        rwa [add_plain] at this
      refine ⟨b, o, rfl, hblk, fun i j hi hj => ?_⟩
      have hi' : i < len := by simpa using hi
      have := (hq i (by omega)).2 j hj
      rw [add_plain] at this
      rw [hn i hi', Nat.add_assoc]
      exact this
/-- A slice of numbers that comes in. -/
theorem open_nums {fuel : Nat} {cs : List Value} {x : DataW H × List MemPlace} (h : DataW.trod enc Try.prog W 0 (fun _ => true) held fuel 33 cs = some x) : ∃ (A : Option Addr) (l : List Int) (c : Nat), cs = [.slice A l.length c] ∧ RdI W W.heap.size A l ∧ l.length ≤ maxLen := by
  rcases open_ints Try.underlying33 Try.underlying2 cellsOf2 h with ⟨rfl, _⟩ | ⟨a, len, cap, zs, rfl, _, hl, hm, hz, _, hc, hw⟩
  · exact ⟨none, [], 0, rfl, ⟨fun m hm => by simp at hm, fun hl => by simp at hl⟩, by unfold maxLen; simp⟩
  · have hzl : len ≤ zs.length := by rw [hz]; split <;> omega
    refine ⟨some a, zs.take len, cap, by simp; omega, ⟨fun x hx => rng_i64 (hw x (List.mem_of_mem_take hx)), fun hpos => ?_⟩, by simp; omega⟩
    have hlen : 0 < len := by simp at hpos; omega
    have h0 := hc 0 (by omega)
    obtain ⟨b, o, spot⟩ := a
    have hspot : spot = none := by simpa [Addr.add] using World.cell?_spot h0
    subst hspot
    have hblk : b < W.heap.size := by
      have := World.block_lt_of_cell? W _ h0
      rwa [add_plain] at this
    refine ⟨b, o, rfl, hblk, fun i hi => ?_⟩
    have hi' : i < len := by simp at hi; omega
    have := hc i (by omega)
    rw [add_plain] at this
    rw [this]
    unfold ith
    rw [List.getD_eq_getElem?_getD, List.getD_eq_getElem?_getD, List.getElem?_take, if_pos hi']
end
end Go.Proofs.Ytogflbpphacokaa
