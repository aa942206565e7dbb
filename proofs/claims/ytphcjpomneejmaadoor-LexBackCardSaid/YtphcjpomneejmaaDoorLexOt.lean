/- A slice of tokens that comes in. -/
import Derived.Test.YtphcjpomneejmaaDoorLexBk
namespace Go.Proofs.YtphcjpomneejmaaDoor
open Go.ChangeShapes Go.WideShapes Go.ChangeAt Go.RowKit Go.WideElems Go.Deep
theorem wt_all {H : Type} {P : Program} {e : TypeId} : ∀ {l : List (DataW H)}, (DataW.weightsAll P e l).all (· ≤ reachBytes) = true → ∀ d ∈ l, (d.weights P e).all (· ≤ reachBytes) = true
  | [], _, d, hd => by simp at hd
  | x :: l, h, d, hd => by
    rw [DataW.weightsAll, List.all_append, Bool.and_eq_true] at h
    rcases List.mem_cons.1 hd with rfl | hd
    · exact h.1
    · exact wt_all h.2 d hd
section
variable {H : Type} {enc : TypeId × Value → H} {W : World} {base : Nat} {sp : Nat → Bool} {held : Bool}
theorem tok_wt {d0 d1 d3 : DataW H} {s : ByteArray} (h : ((DataW.agg [d0, d1, .lit (.string s.data.toList), d3] : DataW H).weights Tryd.prog 32).all (· ≤ reachBytes) = true) : s.size ≤ 140737488355320 := by
  rw [DataW.weights, Tryd.underlying32] at h
  exact (wt_str (wt_skip (wt_skip h))).1
theorem open_tok {fuel : Nat} {l : List Value} {x : DataW H × List MemPlace} (h : DataW.trod enc Tryd.prog W base sp held fuel 32 l = some x) : ∃ (t : Tk) (d0 d1 d3 : DataW H) (s : ByteArray), l = t.cells ∧ x.1 = .agg [d0, d1, .lit (.string s.data.toList), d3] ∧ s.data.toList = t.w ∧ -9223372036854775808 ≤ t.n ∧ t.n ≤ 9223372036854775807 := by
  obtain ⟨xs, n, _, hxe, hl, hx, hf⟩ := DataW.trod_struct Tryd.underlying32 h
  rw [cellsT] at hl
  have hx4 : xs.length = 4 := hx
  have f0 : DataW.trod enc Tryd.prog W base sp held n 3 ((l.drop 0).take (Tryd.prog.cellsOf 3)) = xs[0]? := hf 0 _ rfl
  have f1 : DataW.trod enc Tryd.prog W base sp held n 3 ((l.drop 1).take (Tryd.prog.cellsOf 3)) = xs[1]? := hf 1 _ rfl
  have f2 : DataW.trod enc Tryd.prog W base sp held n 9 ((l.drop 2).take (Tryd.prog.cellsOf 9)) = xs[2]? := hf 2 _ rfl
  have f3 : DataW.trod enc Tryd.prog W base sp held n 2 ((l.drop 3).take (Tryd.prog.cellsOf 2)) = xs[3]? := hf 3 _ rfl
  have ci : Tryd.prog.cellsOf 3 = 1 := by kernel_rfl
  have c6 : Tryd.prog.cellsOf 2 = 1 := by kernel_rfl
  rw [ci] at f0 f1
  rw [cellsStr] at f2
  rw [c6] at f3
  match l, hl, xs, hx4 with
  | [v0, v1, v2, v3], _, [y0, y1, y2, y3], _ =>
    simp at f0 f1 f2 f3
    obtain ⟨t, s, rfl, rfl, rfl, rfl, hs, hy, hn⟩ := tok_parts f0 f1 f2 f3
    exact ⟨t, y0.1, y1.1, y3.1, s, rfl, by rw [hxe]; simp [hy], hs, hn⟩
theorem open_tokens {fuel : Nat} {cs : List Value} {x : DataW H × List MemPlace} {ts : List TypeId} {ds : List (DataW H)} (h : DataW.trod enc Tryd.prog W 0 (fun _ => true) held fuel 23 cs = some x)
    (hw : (DataW.weightsEach Tryd.prog (23 :: ts) (x.1 :: ds)).all (· ≤ reachBytes) = true) : ∃ (A : Option Addr) (l : List Tk) (c : Nat), cs = [.slice A l.length c] ∧ Rd W W.heap.size A l ∧ l.length ≤ 9223372036854775807 ∧ ∀ t ∈ l, TkOk t := by
  rcases open_slice Tryd.underlying23 h with ⟨rfl, _⟩ | ⟨a, len, cap, m, n, D, Pl, rfl, _, hl, hm, hmm, hxe, hx⟩
  · exact ⟨none, [], 0, rfl, Rd.nil _ _ _, by simp, fun t ht => by simp at ht⟩
  · rw [cellsT] at hx
    have hlm : len ≤ m := by rw [hmm]; split <;> omega
    have hwa : ∀ i, i < len → ((D i).weights Tryd.prog 32).all (· ≤ reachBytes) = true := fun i hi => by
      have h1 := wt_head hw
      rw [hxe, DataW.weights, Tryd.underlying23] at h1
      simp only [List.all_cons, List.all_append, Bool.and_eq_true] at h1
      exact wt_all h1.2.1 _ (List.mem_map.2 ⟨i, List.mem_range.2 hi, rfl⟩)
    have each : ∀ i, i < len → ∃ q : Tk, TkOk q ∧ ∀ j, j < 4 → W.cell? (a.add (i * 4 + j)) = some (q.cell j) := fun i hi => by
      obtain ⟨l, h1, h2⟩ := hx i (by omega)
      obtain ⟨_, _, hc⟩ := World.cells?_some h1
      obtain ⟨q, d0, d1, d3, s, rfl, he, hs, hn⟩ := open_tok h2
      have h4 := hwa i hi
      simp only at he
      rw [he] at h4
      have h5 := tok_wt h4
      refine ⟨q, ⟨hn, by rw [← hs, len_s]; exact h5⟩, fun j hj => ?_⟩
      have := hc j hj
      rw [Go.Deep.add_add] at this
      rw [this]
      match j, hj with
      | 0, _ => rfl
      | 1, _ => rfl
      | 2, _ => rfl
      | 3, _ => rfl
    obtain ⟨q, hq⟩ := choose_lt each
    have hn : ∀ i, i < len → nth ((List.range len).map q) i = q i := fun i hi => by
      unfold nth; rw [List.getD_eq_getElem?_getD, List.getElem?_map, List.getElem?_range hi]; rfl
    refine ⟨some a, (List.range len).map q, cap, by simp, fun hpos => ?_, by simp; unfold maxLen at hm; omega, fun t ht => ?_⟩
    · have hlen : 0 < len := by simpa using hpos
      have h0 := (hq 0 hlen).2 0 (by omega)
      obtain ⟨b, o, spot⟩ := a
      have hspot : spot = none := by simpa [Addr.add] using World.cell?_spot h0
      subst hspot
      have hblk : b < W.heap.size := by
        have := World.block_lt_of_cell? W _ h0
        rwa [add_plain] at this
      refine ⟨b, o, rfl, hblk, fun i hi => ?_⟩
      have hi' : i < len := by simpa using hi
      have e : ∀ j, j < 4 → W.cell? ⟨b, o + i * 4 + j, none⟩ = some ((q i).cell j) := fun j hj => by
        have := (hq i hi').2 j hj
        rw [add_plain] at this
        rw [Nat.add_assoc]; exact this
      rw [hn i hi']
      exact ⟨e 0 (by omega), e 1 (by omega), e 2 (by omega), e 3 (by omega)⟩
    · obtain ⟨i, hi, rfl⟩ := List.mem_map.1 ht
      exact (hq i (List.mem_range.1 hi)).1
end
end Go.Proofs.YtphcjpomneejmaaDoor
