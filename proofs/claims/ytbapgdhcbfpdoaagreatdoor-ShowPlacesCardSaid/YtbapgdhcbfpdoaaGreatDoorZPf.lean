/- Layer 4, put together: ParO, ParO2, ParO3, ParPr, ParSh. -/
import Derived.Test.YtbapgdhcbfpdoaaGreatDoorZPe
import Derived.Test.YtbapgdhcbfpdoaaGreatDoorZLe
import Derived.Test.YtbapgdhcbfpdoaaGreatDoorZLf
import Derived.Deep.LoopGhost
import Derived.Deep.AppendLies
/- Contract of package parse: Parse. -/
namespace Go.Proofs.YtbapgdhcbfpdoaaGreatDoor
open Go.RowKit
/-- A program's two rows, in blocks from base on. -/
structure PV (w : World) (base : Nat) (xs : List NM) (ls : List LM) (vi vl : Value) : Prop where
  owi : w.ownsRow base 48 3 vi xs.length (xs.flatMap NM.cells)
  owl : w.ownsRow base 33 3 vl ls.length (ls.flatMap LM.cells)
  its : ∀ m ∈ ls, RdIt w m.A m.ln.its ∧ m.ln.its.length ≤ m.c
  sds : ∀ m ∈ xs, RdS w m.A m.inp.sd ∧ m.inp.sd.length ≤ m.c
theorem PV.nil (w : World) (base : Nat) : PV w base [] [] (.slice none 0 0) (.slice none 0 0) := { owi := World.ownsRow_nil w base _ _, owl := World.ownsRow_nil w base _ _, its := fun m hm => (by cases hm), sds := fun m hm => (by cases hm) }
theorem PS.pv {w : World} {P base : Nat} {xs : List NM} {ls : List LM} {vi vl : Value} (h : PS w P xs ls vi vl) (hb : base ≤ P) : PV w base xs ls vi vl := ⟨row_keep h.owi (fun _ _ _ => rfl) (by omega), row_keep h.owl (fun _ _ _ => rfl) (by omega), h.its, h.sds⟩
def ParRes (w : World) (x : Pr) (e : Ending) (w' : World) : Prop := ∃ xs ls vi vl, e = .returned (.tuple #[.agg #[vi, vl], .agg #[.int .i64 x.fa, .int .i64 x.fe]]) ∧ pgOf xs ls = x.pg ∧ PV w' w.heap.size xs ls vi vl ∧ Below w.heap.size w w'
theorem pf_below (w : World) : Below w.heap.size w ((w.alloc (.cells #[.slice none 0 0, .slice none 0 0] 25)).alloc (.cells #[.int .i64 0, .int .i64 0] 41)) := ((Below.refl _ _).alloc (Nat.le_refl _) _).alloc (by simp) _
theorem res_bel {w w2 : World} (h : Below w.heap.size w w2) (v0 v1 v2 v3 : Value) (o : Obj) : Below w.heap.size w (((((w2.setCell ⟨w.heap.size, 0, none⟩ v0).setCell ⟨w.heap.size, 1, none⟩ v1).setCell ⟨w.heap.size + 1, 0, none⟩ v2).setCell ⟨w.heap.size + 1, 1, none⟩ v3).alloc o).drew :=
  bel_drew ((bset2 (bset2 h (Nat.le_refl _) v0 v1) (Nat.le_succ _) v2 v3).alloc (by simpa using h.size) o)
set_option maxRecDepth 100000 in
set_option maxHeartbeats 1600000 in
theorem parse_err (s : ByteArray) (w : World) (hL : LaidP w) (hs : s.size ≤ 140737488355328) (a x : Int) (hx : lexR s.data.toList = .err a x) (hx0 : x ≠ 0) : Calls Tryz.prog 13 #[.string s] w (ParRes w (.err a x)) := by
  have hlx := fun W hL hs => lex_err s W a x hx hL hs
  have hx1 : (x == 0) = false := by simpa using hx0
  have HB0 := Lib.hid (pf_below w)
  clear hx0 hx
  go_enter Tryz.func13, Tryz.ntmps13
  go_wp2_with (first | (go_at_call 17; refine (hlx _ (hL.1.below (pf_below w)) hs).mono ?_; rintro e w2 ⟨A, c, rfl, hb⟩; have h2 := (hb.block w.heap.size (by first | omega | (simp; omega) | simp)).trans (box1 w _ _); have h3 := (hb.block (w.heap.size + 1) (by first | omega | (simp; omega) | simp)).trans (box2 w _ _); have j0 : w2.cell? ⟨w.heap.size, 0, none⟩ = some (.slice none 0 0) := (by rw [cell_of_row _ _ _ _ _ _ h2]; rfl); have j1 : w2.cell? ⟨w.heap.size, 1, none⟩ = some (.slice none 0 0) := (by rw [cell_of_row _ _ _ _ _ _ h2]; rfl); have i0 : w2.cell? ⟨w.heap.size + 1, 0, none⟩ = some (.int .i64 0) := (by rw [cell_of_row _ _ _ _ _ _ h3]; rfl); have i1 : w2.cell? ⟨w.heap.size + 1, 1, none⟩ = some (.int .i64 0) := (by rw [cell_of_row _ _ _ _ _ _ h3]; rfl); have j2 := frozen_of_row _ _ 0 _ _ h2; have j3 := frozen_of_row _ _ 1 _ _ h2; have i2 := frozen_of_row _ _ 0 _ _ h3; have i3 := frozen_of_row _ _ 1 _ _ h3; have hz := hb.size; have hz : w.heap.size + 2 ≤ w2.heap.size := (by simpa using hz); have l0 : w.heap.size < w2.heap.size := (by omega); have l1 : w.heap.size + 1 < w2.heap.size := (by omega); have H1 := Lib.hid hb; clear hb h2 h3))
  go_region
  all_goals
    go_wp2
    exact bodyPost_ret (v := .tuple #[.agg #[.slice none 0 0, .slice none 0 0], .agg #[.int .i64 a, .int .i64 x]]) (by simp [results, Tryz.results13, go_sem, j0, j1, i0, i1, l0, l1]) rfl ⟨[], [], _, _, rfl, rfl, PV.nil _ _, res_bel (chain2 HB0.out H1.out) _ _ _ _ _⟩
end Go.Proofs.YtbapgdhcbfpdoaaGreatDoor
/- Contract of package parse: Parse, a text whose tokens are read. -/
namespace Go.Proofs.YtbapgdhcbfpdoaaGreatDoor
open Go.RowKit
theorem PS.out {w w' : World} {P B : Nat} {xs : List NM} {ls : List LM} {vi vl : Value} (h : PS w P xs ls vi vl) (hB : B ≤ P) {n0 n1 : Nat} (F : Fr (fun k => k = n0 ∨ k = n1) w w') (l0 : n0 < P) (l1 : n1 < P)
    {c0 c1 : Array Value} {f0 f1 : Nat × Nat} (h0 : w.heap[n0]? = some (.cells c0 25 f0)) (h1 : w.heap[n1]? = some (.cells c1 41 f1)) : PV w' B xs ls vi vl := by
  have hne : ∀ {b : Nat} {cs : Array Value} {T : TypeId} {fr : Nat × Nat}, w.heap[b]? = some (.cells cs T fr) → T ≠ 25 → T ≠ 41 → w'.heap[b]? = w.heap[b]? := fun {b cs T fr} hb hT1 hT2 => F.block b (heap_lt hb) (by
    rintro (rfl | rfl)
    · rw [h0] at hb; simp at hb; exact hT1 hb.2.1.symm
    · rw [h1] at hb; simp at hb; exact hT2 hb.2.1.symm)
  exact ⟨row_keep h.owi (fun k hk hl => F.block k hl (by have := (row_base h.owi hk).1; omega)) (by omega), row_keep h.owl (fun k hk hl => F.block k hl (by have := (row_base h.owl hk).1; omega)) (by omega),
    fun m hm => ⟨RdI.grow (h.its m hm).1 F.size fun _ _ _ _ hb hT => hne hb (by rcases hT with rfl | rfl <;> decide) (by rcases hT with rfl | rfl <;> decide), (h.its m hm).2⟩,
    fun m hm => ⟨RdS.grow (h.sds m hm).1 F.size fun _ _ _ hb => hne hb (by decide) (by decide), (h.sds m hm).2⟩⟩
/-- What the loop over a text's lines holds. -/
structure PI (w0 : World) (P g o c : Nat) (e : Int) (TS us : List Tk) (xs : List NM) (ls : List LM) (vi vl : Value) (wx : World) : Prop where
  run : linesR e ⟨[], []⟩ TS = linesR e (pgOf xs ls) us
  gd : ∀ t ∈ us, Gd t
  fin : us ≠ [] → ∃ vs t, us = vs ++ [t] ∧ t.k = 4
  tok : ∀ i, i < us.length → Cells4 wx g (o + i * 4) (nth us i)
  tb : ∃ cs fr, wx.heap[g]? = some (.cells cs 56 fr)
  cap : us.length ≤ c
  len : us.length ≤ 65537
  ps : PS wx P xs ls vi vl
  kp : Below P w0 wx
  gP : g < P
  cnt : xs.length + ls.length ≤ 64
theorem PI.keep {w0 : World} {P g o c : Nat} {e : Int} {TS us : List Tk} {xs : List NM} {ls : List LM} {vi vl : Value} {wx w' : World} (h : PI w0 P g o c e TS us xs ls vi vl wx) (hb : Below wx.heap.size wx w') : PI w0 P g o c e TS us xs ls vi vl w' := by
  obtain ⟨cs, fr, e1⟩ := h.tb
  have e2 := hb.block g (heap_lt e1)
  exact ⟨h.run, h.gd, h.fin, fun i hi => cells4_keep (h.tok i hi) e2, ⟨cs, fr, e2.trans e1⟩, h.cap, h.len, h.ps.keep hb, h.kp.trans (hb.mono (Nat.le_of_lt h.ps.lt)), h.gP, h.cnt⟩
theorem PI.ap {w0 : World} {P g o c : Nat} {e : Int} {TS us : List Tk} {xs : List NM} {ls : List LM} {vi vl : Value} {wx : World} (h : PI w0 P g o c e TS us xs ls vi vl wx) (hL : LaidP wx) {f : Tk} {r : List Tk} (hu : us.take (us.findIdx isEnd + 1) = f :: r) (hne : us ≠ []) : AP wx P xs ls vi vl g o c f r := by
  obtain ⟨vs, t, e1, e2⟩ := h.fin hne
  have hk := find_lt (us := us) (e := t) (by rw [e1]; simp) e2
  have hlen : (f :: r).length = us.findIdx isEnd + 1 := by rw [← hu, List.length_take]; omega
  have hget : ∀ i, i < (f :: r).length → nth (f :: r) i = nth us i := fun i hi => by
    rw [← hu]; unfold nth; rw [List.getD_eq_getElem?_getD, List.getD_eq_getElem?_getD, List.getElem?_take_of_lt (by omega)]
  refine ⟨h.ps, fun i hi => ?_, h.tb, ?_, ?_, fun t ht => ?_, ?_, hL, h.cnt⟩
  · rw [hget i hi]; exact h.tok i (by omega)
  · have := h.cap; simp at hlen; omega
  · have := h.len; simp at hlen; omega
  · rw [← hu] at ht; exact (h.gd t (List.mem_of_mem_take ht)).1
  · rw [← hu]; exact ends_take hk h.gd
theorem PI.next {w0 : World} {P g o c : Nat} {e : Int} {TS us : List Tk} {xs xs' : List NM} {ls ls' : List LM} {vi vl vi' vl' : Value} {wx w' : World} (h : PI w0 P g o c e TS us xs ls vi vl wx) (hne : us ≠ []) (hadd : addR (pgOf xs ls) (us.take (us.findIdx isEnd + 1)) = .ok (pgOf xs' ls'))
    (F : Fr (PM P vi vl) wx w') (ps : PS w' P xs' ls' vi' vl') : PI w0 P g (o + (us.findIdx isEnd + 1) * 4) (c - (us.findIdx isEnd + 1)) e TS (us.drop (us.findIdx isEnd + 1)) xs' ls' vi' vl' w' := by
  obtain ⟨vs, t, e1, e2⟩ := h.fin hne
  have hk := find_lt (us := us) (e := t) (by rw [e1]; simp) e2
  obtain ⟨cs, fr, e3⟩ := h.tb
  have e4 : w'.heap[g]? = wx.heap[g]? := F.block g (heap_lt e3) fun hm => by have := (h.ps.base g hm).1; have := h.gP; omega
  have hrun : linesR e (pgOf xs ls) us = linesR e (pgOf xs' ls') (us.drop (us.findIdx isEnd + 1)) := by
    cases us with
    | nil => exact (hne rfl).elim
    | cons f r => exact lines_ok hadd
  have hcnt := add_cnt hadd (by simpa [Pg.cnt, pgOf] using h.cnt)
  refine ⟨h.run.trans hrun, fun t ht => h.gd t (List.mem_of_mem_drop ht), fun hd => ?_, fun i hi => ?_, ⟨cs, fr, e4.trans e3⟩, ?_, ?_, ps, h.kp.trans (F.below (Nat.le_of_lt h.ps.lt) fun k hk => (h.ps.base k hk).1), h.gP, by simpa [Pg.cnt, pgOf] using hcnt⟩
  · rw [e1] at hd hk ⊢
    refine ⟨vs.drop ((vs ++ [t]).findIdx isEnd + 1), t, ?_, e2⟩
    have hlt : (vs ++ [t]).findIdx isEnd + 1 < (vs ++ [t]).length := by
      rcases Nat.lt_or_ge ((vs ++ [t]).findIdx isEnd + 1) (vs ++ [t]).length with h1 | h1
      · exact h1
      · exact (hd (List.drop_of_length_le h1)).elim
    rw [List.drop_append_of_le_length (by simp at hlt; omega)]
  · rw [List.length_drop] at hi
    have e5 : nth (us.drop (us.findIdx isEnd + 1)) i = nth us (us.findIdx isEnd + 1 + i) := by unfold nth; rw [List.getD_eq_getElem?_getD, List.getD_eq_getElem?_getD, List.getElem?_drop]
    rw [e5, show o + (us.findIdx isEnd + 1) * 4 + i * 4 = o + (us.findIdx isEnd + 1 + i) * 4 from by omega]
    exact cells4_keep (h.tok _ (by omega)) e4
  · rw [List.length_drop]; have := h.cap; omega
  · rw [List.length_drop]; have := h.len; omega
/-- The result's two variables, the text's end, as they lie while lines are read. -/
structure PB (w : World) (n6 : Nat) (m : Int) (W : World) : Prop where
  p : W.heap[w.heap.size]? = some (.cells #[.slice none 0 0, .slice none 0 0] 25 (0, 0))
  f : W.heap[w.heap.size + 1]? = some (.cells #[.int .i64 0, .int .i64 0] 41 (0, 0))
  e : W.heap[n6]? = some (.cells #[.int .i64 4, .int .i64 m, .string (bs []), .int .i64 0] 56 (0, 0))
theorem PB.keep {w : World} {n6 : Nat} {m : Int} {W W' : World} (h : PB w n6 m W) {B : Nat} (hb : Below B W W') (h1 : w.heap.size + 1 < B) (h2 : n6 < B) : PB w n6 m W' :=
  ⟨(hb.block _ (by omega)).trans h.p, (hb.block _ h1).trans h.f, (hb.block _ h2).trans h.e⟩
end Go.Proofs.YtbapgdhcbfpdoaaGreatDoor
/- Contract of package parse: Parse, a text whose tokens are read. -/
namespace Go.Proofs.YtbapgdhcbfpdoaaGreatDoor
open Go.RowKit
theorem PB.cells {w : World} {n6 : Nat} {m : Int} {W : World} (h : PB w n6 m W) : (W.cell? ⟨w.heap.size, 0, none⟩ = some (.slice none 0 0) ∧ W.cell? ⟨w.heap.size, 1, none⟩ = some (.slice none 0 0) ∧ W.frozen? ⟨w.heap.size, 0, none⟩ = false ∧ W.frozen? ⟨w.heap.size, 1, none⟩ = false) ∧
    (W.cell? ⟨w.heap.size + 1, 0, none⟩ = some (.int .i64 0) ∧ W.cell? ⟨w.heap.size + 1, 1, none⟩ = some (.int .i64 0) ∧ W.frozen? ⟨w.heap.size + 1, 0, none⟩ = false ∧ W.frozen? ⟨w.heap.size + 1, 1, none⟩ = false) ∧
    (W.cell? ⟨n6, 0, none⟩ = some (.int .i64 4) ∧ W.cell? ⟨n6, 1, none⟩ = some (.int .i64 m) ∧ W.cell? ⟨n6, 2, none⟩ = some (.string (bs [])) ∧ W.cell? ⟨n6, 3, none⟩ = some (.int .i64 0)) ∧ w.heap.size < W.heap.size ∧ w.heap.size + 1 < W.heap.size :=
  ⟨⟨by rw [cell_of_row _ _ _ _ _ _ h.p]; rfl, by rw [cell_of_row _ _ _ _ _ _ h.p]; rfl, frozen_of_row _ _ _ _ _ h.p, frozen_of_row _ _ _ _ _ h.p⟩,
   ⟨by rw [cell_of_row _ _ _ _ _ _ h.f]; rfl, by rw [cell_of_row _ _ _ _ _ _ h.f]; rfl, frozen_of_row _ _ _ _ _ h.f, frozen_of_row _ _ _ _ _ h.f⟩,
   ⟨by rw [cell_of_row _ _ _ _ _ _ h.e]; rfl, by rw [cell_of_row _ _ _ _ _ _ h.e]; rfl, by rw [cell_of_row _ _ _ _ _ _ h.e]; rfl, by rw [cell_of_row _ _ _ _ _ _ h.e]; rfl⟩, heap_lt h.p, heap_lt h.f⟩
theorem par_ok {w w5 : World} {P : Nat} {xs : List NM} {ls : List LM} {vi vl : Value} {n6 : Nat} {m : Int} {x : Pr} (hx : x = .ok (pgOf xs ls)) (h : PS w5 P xs ls vi vl) (hB : PB w n6 m w5) (hb : Below w.heap.size w w5) (hP : w.heap.size + 1 < P) (v0 v1 : Value) :
    ParRes w x (.returned (.tuple #[.agg #[vi, vl], .agg #[.int .i64 0, .int .i64 0]])) ((((w5.setCell ⟨w.heap.size, 0, none⟩ vi).setCell ⟨w.heap.size, 1, none⟩ vl).setCell ⟨w.heap.size + 1, 0, none⟩ v0).setCell ⟨w.heap.size + 1, 1, none⟩ v1) := by
  subst hx
  refine ⟨xs, ls, vi, vl, rfl, rfl, h.out (n0 := w.heap.size) (n1 := w.heap.size + 1) (by omega) ?_ (by omega) hP hB.p hB.f, bset2 (bset2 hb (Nat.le_refl _) _ _) (Nat.le_succ _) _ _⟩
  exact ((((Fr.refl _ _).set (.inl (.inl rfl)) _ _).set (.inl (.inl rfl)) _ _).set (.inl (.inr rfl)) _ _).set (.inl (.inr rfl)) _ _
theorem par_bad {w w5 : World} {x : Pr} {a c : Int} (hx : x = .err a c) (hb : Below w.heap.size w w5) : ParRes w x (.returned (.tuple #[.agg #[.slice none 0 0, .slice none 0 0], .agg #[.int .i64 a, .int .i64 c]])) w5 := by
  subst hx
  exact ⟨[], [], _, _, rfl, rfl, PV.nil _ _, hb⟩
theorem lines_errU {e : Int} {p : Pg} {us : List Tk} {a c : Int} (hne : us ≠ []) (h : addR p (us.take (us.findIdx isEnd + 1)) = .err a c) : linesR e p us = .err a c := by
  cases us with
  | nil => exact (hne rfl).elim
  | cons f r => exact lines_err h
theorem PI.nil {w0 : World} {P g o c o' : Nat} {e : Int} {TS us : List Tk} {xs : List NM} {ls : List LM} {vi vl : Value} {wx : World} (h : PI w0 P g o c e TS us xs ls vi vl wx) (hu : us = []) : PI w0 P g o' c e TS us xs ls vi vl wx := by
  subst hu
  exact ⟨h.run, h.gd, h.fin, fun i hi => by simp at hi, h.tb, h.cap, h.len, h.ps, h.kp, h.gP, h.cnt⟩
def LexOwn (w : World) (ts : List Tk) (e : Ending) (w' : World) : Prop := ∃ A c, e = .returned (.tuple #[.slice A ts.length c, .agg #[.int .i64 0, .int .i64 0]]) ∧ Own w' w.heap.size (.slice A ts.length c) ts ∧ Below w.heap.size w w'
theorem lex_own (s : ByteArray) (w : World) (ts : List Tk) (hx : lexR s.data.toList = .ok ts) (hL : Laid w) (hs : s.size ≤ 140737488355328) : Calls Tryz.prog 17 #[.string s] w (LexOwn w ts) :=
  (lex_at s w _ hx hL hs).mono fun _ _ ⟨A, c, he, ho, hb⟩ => ⟨A, c, he, ho, hb⟩
theorem PI.start {w w2 w4 : World} {A : Option Addr} {c : Nat} {ts : List Tk} {n g cap : Nat} (ho : w2.ownsRow (w.heap.size + 2) 56 4 (.slice A ts.length c) ts.length (ts.flatMap Tk.cells)) (hb : Below w.heap.size w w2) (hz : w.heap.size + 2 ≤ w2.heap.size)
    (h2 : w2.heap[w.heap.size]? = some (.cells #[.slice none 0 0, .slice none 0 0] 25 (0, 0))) (h3 : w2.heap[w.heap.size + 1]? = some (.cells #[.int .i64 0, .int .i64 0] 41 (0, 0)))
    (hgrow : (((w2.alloc (.cells #[.int .i64 0, .int .i64 0] 41)).alloc (.cells #[.int .i64 4, .int .i64 n, .string ⟨#[]⟩, .int .i64 0] 56)).alloc (.cells #[.int .i64 4, .int .i64 n, .string ⟨#[]⟩, .int .i64 0] 56)).grownBy w4 (Value.slice A ts.length c).ownBlock)
    (hown : w4.ownsRow (w.heap.size + 2) 56 4 (.slice (some ⟨g, 0, none⟩) (ts.length + 1) cap) (ts.length + 1) (ts.flatMap Tk.cells ++ Tk.cells ⟨4, n, [], 0⟩))
    (hg : ∀ t ∈ ts, Gd t) (hlen : ts.length ≤ 65536) :
    PI (w4.alloc (.cells #[.slice none 0 0, .slice none 0 0] 25)) w4.heap.size g 0 cap n (ts ++ [⟨4, n, [], 0⟩]) (ts ++ [⟨4, n, [], 0⟩]) [] [] (.slice none 0 0) (.slice none 0 0) (w4.alloc (.cells #[.slice none 0 0, .slice none 0 0] 25)) ∧
    PB w (w2.heap.size + 1) n (w4.alloc (.cells #[.slice none 0 0, .slice none 0 0] 25)) ∧ Below w.heap.size w (w4.alloc (.cells #[.slice none 0 0, .slice none 0 0] 25)) ∧ w2.heap.size + 3 ≤ w4.heap.size := by
  have hsz := hgrow.size
  have hsz : w2.heap.size + 3 ≤ w4.heap.size := by simpa using hsz
  have hrow : ∀ k, (Value.slice A ts.length c).ownBlock = some k → w.heap.size + 2 ≤ k ∧ k < w2.heap.size := fun k hk => row_base ho hk
  have hold : ∀ k, k < w2.heap.size → k < w.heap.size + 2 → w4.heap[k]? = w2.heap[k]? := fun k h1 h2 => by
    rw [hgrow.block k (by simp; omega) (fun e => by have := hrow k e.symm; omega)]
    exact (heap_alloc_old _ _ (by simp; omega)).trans ((heap_alloc_old _ _ (by simp; omega)).trans (heap_alloc_old _ _ h1))
  have h6 : w4.heap[w2.heap.size + 1]? = some (.cells #[.int .i64 4, .int .i64 n, .string (bs []), .int .i64 0] 56 (0, 0)) := by
    rw [hgrow.block _ (by simp) (fun e => by have := hrow _ e.symm; omega)]
    refine (heap_alloc_old _ _ (by simp)).trans ?_
    have := heap_alloc_new (w2.alloc (.cells #[.int .i64 0, .int .i64 0] 41)) (.cells #[.int .i64 4, .int .i64 n, .string ⟨#[]⟩, .int .i64 0] 56)
    rw [show (w2.alloc (.cells #[.int .i64 0, .int .i64 0] 41)).heap.size = w2.heap.size + 1 by simp] at this
    exact this
  have hup : ∀ k, k < w4.heap.size → (w4.alloc (.cells #[.slice none 0 0, .slice none 0 0] 25)).heap[k]? = w4.heap[k]? := fun k hk => heap_alloc_old _ _ hk
  have hO := Own.snoc hown
  have hgb := row_base hown (k := g) rfl
  obtain ⟨cur, hcur⟩ := row_heap hown
  have hR := hO.rd (A := some ⟨g, 0, none⟩) (n := ts.length + 1) (c := cap)
  have hbz := hb.size
  refine ⟨⟨rfl, ?_, fun _ => ⟨ts, _, rfl, rfl⟩, fun i hi => ?_, ⟨cur, (0, 0), (hup g hgb.2).trans hcur⟩, ?_, by simp; omega, ⟨heap_alloc_new _ _, World.ownsRow_nil _ _ _ _, World.ownsRow_nil _ _ _ _, fun m hm => (by cases hm), fun m hm => (by cases hm)⟩, Below.refl _ _, hgb.2, by simp⟩,
    ⟨(hup _ (by omega)).trans ((hold _ (by omega) (by omega)).trans h2), (hup _ (by omega)).trans ((hold _ (by omega) (by omega)).trans h3), (hup _ (by omega)).trans h6⟩, ?_, hsz⟩
  · intro t ht
    rcases List.mem_append.1 ht with ht | ht
    · exact hg t ht
    · simp at ht; subst ht; exact ⟨by simp, fun _ => rfl⟩
  · obtain ⟨b, o, e, _, hc⟩ := hR (by simp)
    injection e with e
    injection e with e1 e2
    subst e1 e2
    exact cells4_keep (hc i hi) (hup _ hgb.2)
  · obtain ⟨_, _, e, hc⟩ := row_shape hown
    injection e with _ _ e3
    subst e3
    simpa using hc
  · exact (((((hb.alloc (by omega) _).alloc (by simp; omega) _).alloc (by simp; omega) _).grown hgrow (by simp; omega) (fun k hk => by have := hrow k hk; omega))).alloc (by omega) _
set_option maxRecDepth 100000 in
set_option maxHeartbeats 3200000 in
theorem parse_toks (s : ByteArray) (w : World) (hL : LaidP w) (hs : s.size ≤ 140737488355328) (ts : List Tk) (hx : lexR s.data.toList = .ok ts) : Calls Tryz.prog 13 #[.string s] w (ParRes w (parseR s.data.toList)) := by
  have hlx := fun W hL hs => lex_own s W _ hx hL hs
  have hgd := lexR_gd hx
  have hX := pz_ok hx
  rw [len_s] at hX hgd
  have HX := Lib.hid (And.intro hX hgd)
  have hlen := hgd.2.1
  have hlen2 := hgd.2.2
  have HB0 := Lib.hid (pf_below w)
  obtain ⟨i0, hi, hz0, hz1, hz2⟩ := info_parts infoT
  have HI := Lib.hid (And.intro hi (And.intro hz0 (And.intro hz1 hz2)))
  clear hi hz0 hz1 hz2 hx hX hgd
  go_enter Tryz.func13, Tryz.ntmps13
  go_wp2_with (first
    | (go_at_call 17; refine (hlx _ (hL.1.below (pf_below w)) hs).mono ?_; rintro e w2 ⟨A, c, rfl, ho, hb⟩; have h2 := (hb.block w.heap.size (by first | omega | (simp; omega) | simp)).trans (box1 w _ _); have h3 := (hb.block (w.heap.size + 1) (by first | omega | (simp; omega) | simp)).trans (box2 w _ _); have hz := hb.size; have hz : w.heap.size + 2 ≤ w2.heap.size := (by simpa using hz); have ho : w2.ownsRow (w.heap.size + 2) 56 4 (.slice A ts.length c) ts.length (ts.flatMap Tk.cells) := (by simpa [Own] using ho); have H1 := Lib.hid (And.intro ho (And.intro (chain2 HB0.out hb) (And.intro h2 h3))); clear hb h2 h3 ho)
    | (at_builtin; refine wpList_append_lies _ rfl (.tmp 23) (.tmp 25) _ rfl (w.heap.size + 2) 56 i0 _ 4 40 Tryz.underlying52 HI.out.1 HI.out.2.1 HI.out.2.2.1 HI.out.2.2.2 rfl (by omega) (.slice A ts.length c) ts.length (ts.flatMap Tk.cells) rfl (((H1.out.1.alloc _).alloc _).alloc _) ⟨w2.heap.size + 1 + 1, 0, none⟩ 1 1 (Tk.cells ⟨4, s.size, [], 0⟩) rfl rfl (newsN _ _ (by simp) #[.int .i64 4, .int .i64 s.size, .string ⟨#[]⟩, .int .i64 0] _) (oneCells _) (by omega) (by unfold maxLen; omega) (by omega) (by simp; omega) (w2.heap.size + 3) (by simp) ?_; intro g cap w4 hown4 hgrow hat hlt4; have HS := Lib.hid (PI.start H1.out.1 H1.out.2.1 hz H1.out.2.2.1 H1.out.2.2.2 hgrow hown4 HX.out.2.1 hlen); clear hown4 hgrow hat))
  obtain ⟨W0, hW0⟩ : ∃ W, W = w4.alloc (.cells #[.slice none 0 0, .slice none 0 0] 25) := ⟨_, rfl⟩
  replace HS := Lib.hid (by have h := HS.out; rw [← hW0] at h; exact h)
  rw [← hW0]
  clear hW0
  go_loopg [4] (ts.length + 1) (fun n s4 wx => ∃ us xs ls vi vl o c, us.length = n ∧ s4 = .slice (some ⟨g, o, none⟩) us.length c ∧ Hid (PI W0 w4.heap.size g o c s.size (ts ++ [⟨4, s.size, [], 0⟩]) us xs ls vi vl wx))
  case atStart => exact ⟨ts ++ [(⟨4, s.size, [], 0⟩ : Tk)], [], [], .slice none 0 0, .slice none 0 0, 0, cap, by simp, by simp, Lib.hid HS.out.1⟩
  case round =>
    obtain ⟨us, xs, ls, vi, vl, o, c2, hgk, rfl, HV⟩ := hrel
    have HPB := Lib.hid (HS.out.2.1.keep HV.out.kp (by have := HS.out.2.2.2; omega) (by have := HS.out.2.2.2; omega))
    have HBL := Lib.hid (HS.out.2.2.1.trans (HV.out.kp.mono (by have := HS.out.2.2.2; omega)))
    cases us with
    | nil =>
      simp only [List.length_nil] at hgk
      subst hgk
      have hPl := HV.out.ps.lt
      have hP1 : w.heap.size + 1 < w4.heap.size := by have := HS.out.2.2.2; omega
      have n01 : ¬ w.heap.size = w4.heap.size := by omega
      have n02 : ¬ w4.heap.size = w.heap.size := by omega
      have n03 : ¬ w.heap.size + 1 = w4.heap.size := by omega
      have n04 : ¬ w4.heap.size = w.heap.size + 1 := by omega
      obtain ⟨Ai, ci, rfl, _⟩ := row_shape HV.out.ps.owi
      obtain ⟨Al, cl, rfl, _⟩ := row_shape HV.out.ps.owl
      obtain ⟨p0, p1, pf⟩ := HV.out.ps.cells
      have hca := fun W h => complete_any W w4.heap.size xs ls (.slice Ai xs.length ci) (.slice Al ls.length cl) h (by have := HV.out.cnt; omega)
      have HRUN := Lib.hid (show parseR s.data.toList = if compl (pgOf xs ls) then .ok (pgOf xs ls) else .err s.size 42 by rw [HX.out.1, HV.out.run, lines_nil])
      cases hc : compl (pgOf xs ls) with
      | true =>
        rw [hc] at hca
        replace HRUN := Lib.hid (show parseR s.data.toList = .ok (pgOf xs ls) by rw [HRUN.out, if_pos hc])
        clear hc
        go_wp2_with (first
          | (go_at_call 21; refine (hca _ HV.out.ps).mono ?_; rintro e w5 ⟨rfl, g5⟩; have hps := HV.out.ps.keep g5.below; have hpb := HPB.out.keep g5.below (by have := heap_lt HPB.out.f; omega) (heap_lt HPB.out.e); obtain ⟨k0, k1, kf⟩ := hps.cells; obtain ⟨⟨r0, r1, r2, r3⟩, ⟨r4, r5, r6, r7⟩, _, l0, l1⟩ := hpb.cells; have hPl5 := hps.lt; have H5 := Lib.hid (And.intro hps (And.intro hpb (chain2 HBL.out g5.below))); clear g5 hps hpb kf))
        exact bodyPost_ret (v := .tuple #[.agg #[.slice Ai xs.length ci, .slice Al ls.length cl], .agg #[.int .i64 0, .int .i64 0]]) (by simp [results, Tryz.results13, go_sem, r0, r1, r4, r5]) rfl (par_ok HRUN.out H5.out.1 H5.out.2.1 H5.out.2.2 hP1 _ _)
      | false =>
        rw [hc] at hca
        replace HRUN := Lib.hid (show parseR s.data.toList = .err s.size 42 by rw [HRUN.out, hc]; rfl)
        clear hc
        go_wp2_with (first
          | (go_at_call 21; refine (hca _ HV.out.ps).mono ?_; rintro e w5 ⟨rfl, g5⟩; have hpb := HPB.out.keep g5.below (by have := heap_lt HPB.out.f; omega) (heap_lt HPB.out.e); obtain ⟨_, _, ⟨e0, e1, e2, e3⟩, l0, l1⟩ := hpb.cells; have H5 := Lib.hid (And.intro hpb (chain2 HBL.out g5.below)); clear g5 hpb)
          | (go_at_call 22; refine (fault_any ⟨4, s.size, [], 0⟩ 42 _).mono ?_; rintro e w6 ⟨rfl, g6⟩; have hpb := H5.out.1.keep g6.below (by have := heap_lt H5.out.1.f; omega) (heap_lt H5.out.1.e); obtain ⟨⟨r0, r1, r2, r3⟩, ⟨r4, r5, r6, r7⟩, _, l0, l1⟩ := hpb.cells; have H6 := Lib.hid (chain2 H5.out.2 g6.below); clear g6 hpb))
        exact bodyPost_ret (v := .tuple #[.agg #[.slice none 0 0, .slice none 0 0], .agg #[.int .i64 s.size, .int .i64 42]]) (by simp [results, Tryz.results13, go_sem, r0, r1, r4, r5]) rfl (par_bad HRUN.out (bset2 (bset2 H6.out (Nat.le_refl _) _ _) (Nat.le_succ _) _ _))
    | cons f r =>
      obtain ⟨us, hus⟩ : ∃ us, us = f :: r := ⟨_, rfl⟩
      have hne : us ≠ [] := by rw [hus]; simp
      rw [← hus] at HV hgk ⊢
      have hl0 : (0 : Int) < (us.length : Int) := by rw [hus]; simp
      have lg : g < wr.heap.size := by obtain ⟨cs, fr, e⟩ := HV.out.tb; exact heap_lt e
      obtain ⟨vs, e9, hv1, hv2⟩ := HV.out.fin hne
      have hfk := find_lt (us := us) (e := e9) (by rw [hv1]; simp) hv2
      obtain ⟨k, hk⟩ : ∃ k, k = us.findIdx isEnd := ⟨_, rfl⟩
      have hix := fun W h1 h2 => index_any W g o c2 us h1 h2 (by have := HV.out.len; omega) hfk
      rw [← hk] at hix hfk
      obtain ⟨f2, r2, htk⟩ : ∃ f2 r2, us.take (k + 1) = f2 :: r2 := by
        cases h : us.take (k + 1) with
        | nil => have := congrArg List.length h; rw [List.length_take, List.length_nil] at this; omega
        | cons a b => exact ⟨a, b, rfl⟩
      have htl : r2.length + 1 = k + 1 := by have := congrArg List.length htk; rw [List.length_take, List.length_cons] at this; omega
      obtain rfl : k = r2.length := by omega
      have HK := Lib.hid (And.intro hne (And.intro hk (show us.take (us.findIdx isEnd + 1) = f2 :: r2 by rw [← hk]; exact htk)))
      have lP : w4.heap.size < wr.heap.size := HV.out.ps.lt
      subst hgk
      clear hus hne hv1 hv2 hk htk htl 
      have hrl : r2.length + 1 ≤ us.length := hfk
      have hul : us.length ≤ 65537 := HV.out.len
      have hrc : r2.length + 1 ≤ c2 := by have := HV.out.cap; omega
      have hnc : ¬ c2 = r2.length + 1 ∨ c2 = r2.length + 1 := by omega
      clear hnc hfk
      have hadd := fun W h => add_any W w4.heap.size xs ls vi vl g o c2 f2 r2 h
      have HLL := Lib.hid (hL.below HBL.out)
      cases hx : addR (pgOf xs ls) (f2 :: r2) with
      | err a x =>
        have hx40 := addR_nz hx
        have hx0 : (x != 0) = true := by simp; omega
        rw [hx] at hadd
        have HRUN := Lib.hid (show parseR s.data.toList = .err a x by rw [HX.out.1, HV.out.run]; exact lines_errU HK.out.1 (by rw [HK.out.2.2]; exact hx))
        clear hx hx40
        go_wp2_with (first
          | (go_at_call 18; refine (hix _ HV.out.tok lg).mono ?_; rintro e w5 ⟨rfl, g5⟩; have H5 := Lib.hid (And.intro (HV.out.keep g5.below) (And.intro (HPB.out.keep g5.below (heap_lt HPB.out.f) (heap_lt HPB.out.e)) (And.intro (chain2 HBL.out g5.below) (HLL.out.below g5.below)))); clear g5)
          | (go_at_call 20; refine (hadd _ (H5.out.1.ap H5.out.2.2.2 HK.out.2.2 HK.out.1)).mono ?_; rintro e w6 ⟨rfl, F6⟩; have hb6 := F6.below (Nat.le_of_lt H5.out.1.ps.lt) (fun k hk => (H5.out.1.ps.base k hk).1); have hpb := H5.out.2.1.keep hb6 (by have := HS.out.2.2.2; omega) (by have := HS.out.2.2.2; omega); obtain ⟨⟨r0, r1, r2', r3⟩, ⟨r4, r5, r6, r7⟩, _, l0, l1⟩ := hpb.cells; have H6 := Lib.hid (H5.out.2.2.1.trans (hb6.mono (by have := HS.out.2.2.2; omega))); clear F6 hb6 hpb))
        go_region
        all_goals
          go_wp2
          exact bodyPost_ret (v := .tuple #[.agg #[.slice none 0 0, .slice none 0 0], .agg #[.int .i64 a, .int .i64 x]]) (by simp [results, Tryz.results13, go_sem, r0, r1, r4, r5, l0, l1]) rfl (par_bad HRUN.out (res_bel H6.out _ _ _ _ _))
      | ok q =>
        rw [hx] at hadd
        have HQ := Lib.hid (show addR (pgOf xs ls) (us.take (us.findIdx isEnd + 1)) = .ok q by rw [HK.out.2.2]; exact hx)
        clear hx
        have HTK := Lib.hid HV.out.tok
        by_cases hcc : c2 = r2.length + 1
        · subst hcc
          have e1 : us.length = r2.length + 1 := by have := HV.out.cap; omega
          have h16 : r2.length ≤ 65536 := by omega
          have E1 := Lib.hid e1
          rw [e1] at hix ⊢
          clear hrl hrc hul hl0 e1
          have hl0 : (0 : Int) < (r2.length : Int) + 1 := by omega
          go_wp2_with (first
            | (go_at_call 18; refine (hix _ (fun i hi => HTK.out i (E1.out ▸ hi)) lg).mono ?_; rintro e w5 ⟨rfl, g5⟩; have H5 := Lib.hid (And.intro (HV.out.keep g5.below) (HLL.out.below g5.below)); clear g5)
            | (go_at_call 20; refine (hadd _ (H5.out.1.ap H5.out.2 HK.out.2.2 HK.out.1)).mono ?_; rintro e w6 ⟨rfl, xs', ls', vi', vl', ps', hq, F6, _, _, _⟩; have H6 := Lib.hid (PI.keep (H5.out.1.next HK.out.1 (HQ.out.trans (congrArg Pr.ok hq.symm)) F6 ps') (up (.cells #[.int .i64 0, .int .i64 0] 41))); clear F6 ps' hq))
          go_roundg 0
          case measure => have := E1.out; omega
          case rel =>
            have hnil : us.drop (us.findIdx isEnd + 1) = [] := List.drop_of_length_le (by rw [E1.out, HK.out.2.1]; exact Nat.le_refl _)
            have h := H6.out
            rw [← HK.out.2.1, Nat.sub_self] at h
            rw [← HK.out.2.1] at hnil
            exact ⟨us.drop (r2.length + 1), xs', ls', vi', vl', o, 0, by rw [hnil]; rfl, by rw [hnil]; rfl, Lib.hid (h.nil hnil)⟩
        · skip
          go_wp2_with (first
            | (go_at_call 18; refine (hix _ HV.out.tok lg).mono ?_; rintro e w5 ⟨rfl, g5⟩; have H5 := Lib.hid (And.intro (HV.out.keep g5.below) (HLL.out.below g5.below)); clear g5)
            | (go_at_call 20; refine (hadd _ (H5.out.1.ap H5.out.2 HK.out.2.2 HK.out.1)).mono ?_; rintro e w6 ⟨rfl, xs', ls', vi', vl', ps', hq, F6, _, _, _⟩; have H6 := Lib.hid (PI.keep (H5.out.1.next HK.out.1 (HQ.out.trans (congrArg Pr.ok hq.symm)) F6 ps') (up (.cells #[.int .i64 0, .int .i64 0] 41))); clear F6 ps' hq))
          go_roundg (us.length - (r2.length + 1))
          case measure => omega
          case rel =>
            refine ⟨us.drop (us.findIdx isEnd + 1), xs', ls', vi', vl', o + (r2.length + 1) * 4, c2 - (r2.length + 1), by rw [List.length_drop, HK.out.2.1], by rw [List.length_drop, HK.out.2.1], ?_⟩
            have h := H6.out
            rw [← HK.out.2.1] at h
            rw [← HK.out.2.1]
            exact Lib.hid h
theorem parse_any (s : ByteArray) (w : World) (hL : LaidP w) (hs : s.size ≤ 140737488355328) : Calls Tryz.prog 13 #[.string s] w (ParRes w (parseR s.data.toList)) := by
  cases hx : lexR s.data.toList with
  | ok ts => exact parse_toks s w hL hs ts hx
  | err a c => rw [pz_bad hx]; exact parse_err s w hL hs a c hx (lexR_nz hx)
end Go.Proofs.YtbapgdhcbfpdoaaGreatDoor
/- What Parse answers, as it is read by who called it; shown. -/
namespace Go.Proofs.YtbapgdhcbfpdoaaGreatDoor
open Go.RowKit
def LnAt (w : World) (g o : Nat) (m : Ln) : Prop := w.cell? ⟨g, o, none⟩ = some (.string (bs m.nm)) ∧ w.cell? ⟨g, o + 1, none⟩ = some (.int .i64 m.pl) ∧ ∃ A c, w.cell? ⟨g, o + 2, none⟩ = some (.slice A m.its.length c) ∧ m.its.length ≤ c ∧ RdIt w A m.its
def InAt (w : World) (g o : Nat) (m : Inp) : Prop := w.cell? ⟨g, o, none⟩ = some (.string (bs m.nm)) ∧ w.cell? ⟨g, o + 1, none⟩ = some (.int .i64 m.pl) ∧ ∃ A c, w.cell? ⟨g, o + 2, none⟩ = some (.slice A m.sd.length c) ∧ m.sd.length ≤ c ∧ RdS w A m.sd
/-- A program is read of two slices. -/
structure PR (w : World) (Ai Al : Option Addr) (p : Pg) : Prop where
  lns : 0 < p.lns.length → ∃ g, Al = some ⟨g, 0, none⟩ ∧ g < w.heap.size ∧ ∀ i, i < p.lns.length → LnAt w g (i * 3) (p.lns.getD i default)
  ins : 0 < p.ins.length → ∃ g, Ai = some ⟨g, 0, none⟩ ∧ g < w.heap.size ∧ ∀ i, i < p.ins.length → InAt w g (i * 3) (p.ins.getD i default)
theorem rdIt_below {w w' : World} {A : Option Addr} {l : List It} (h : RdIt w A l) (hb : Below w.heap.size w w') : RdIt w' A l := RdI.mono h fun b hb' => ⟨Nat.lt_of_lt_of_le hb' hb.size, hb.block b hb'⟩
theorem rdS_below {w w' : World} {A : Option Addr} {l : List (List UInt8 × Int)} (h : RdS w A l) (hb : Below w.heap.size w w') : RdS w' A l := RdS.grow h hb.size fun b _ _ e => hb.block b (heap_lt e)
theorem cell_below {w w' : World} (hb : Below w.heap.size w w') {g : Nat} (hg : g < w.heap.size) (j : Nat) : w'.cell? ⟨g, j, none⟩ = w.cell? ⟨g, j, none⟩ := World.cell?_of_block (a := ⟨g, j, none⟩) (hb.block g hg)
theorem LnAt.below {w w' : World} {g o : Nat} {m : Ln} (h : LnAt w g o m) (hb : Below w.heap.size w w') (hg : g < w.heap.size) : LnAt w' g o m := by
  obtain ⟨h0, h1, A, c, h2, h3, h4⟩ := h
  exact ⟨(cell_below hb hg _).trans h0, (cell_below hb hg _).trans h1, A, c, (cell_below hb hg _).trans h2, h3, rdIt_below h4 hb⟩
theorem InAt.below {w w' : World} {g o : Nat} {m : Inp} (h : InAt w g o m) (hb : Below w.heap.size w w') (hg : g < w.heap.size) : InAt w' g o m := by
  obtain ⟨h0, h1, A, c, h2, h3, h4⟩ := h
  exact ⟨(cell_below hb hg _).trans h0, (cell_below hb hg _).trans h1, A, c, (cell_below hb hg _).trans h2, h3, rdS_below h4 hb⟩
theorem PR.below {w w' : World} {Ai Al : Option Addr} {p : Pg} (h : PR w Ai Al p) (hb : Below w.heap.size w w') : PR w' Ai Al p :=
  ⟨fun hl => by obtain ⟨g, e, hg, hc⟩ := h.lns hl; exact ⟨g, e, Nat.lt_of_lt_of_le hg hb.size, fun i hi => (hc i hi).below hb hg⟩,
   fun hl => by obtain ⟨g, e, hg, hc⟩ := h.ins hl; exact ⟨g, e, Nat.lt_of_lt_of_le hg hb.size, fun i hi => (hc i hi).below hb hg⟩⟩
theorem flatN_get : ∀ (l : List NM) (i j : Nat) (h : i < l.length), j < 3 → (l.flatMap NM.cells)[i * 3 + j]? = (l[i]).cells[j]?
  | [], i, j, h, _ => by simp at h
  | a :: t, 0, j, _, hj => by
    rw [List.flatMap_cons, List.getElem?_append_left (by simp [NM.cells]; omega)]; simp
  | a :: t, i + 1, j, h, hj => by
    have ih := flatN_get t i j (by simpa using h) hj
    rw [List.flatMap_cons, List.getElem?_append_right (by simp [NM.cells]; omega)]
    simp only [List.getElem_cons_succ]
    rw [← ih]
    congr 1
    simp only [NM.cells, List.length_cons, List.length_nil]
    omega
theorem PV.read {w : World} {base : Nat} {xs : List NM} {ls : List LM} {Ai Al : Option Addr} {ci cl : Nat} (h : PV w base xs ls (.slice Ai xs.length ci) (.slice Al ls.length cl)) : PR w Ai Al (pgOf xs ls) := by
  refine ⟨fun hl => ?_, fun hl => ?_⟩
  · have hl : 0 < ls.length := by simpa [pgOf] using hl
    obtain ⟨g, cap, e, hg1, hg2⟩ := h.owl.form hl
    injection e with e1 e2 e3
    subst e1 e3
    refine ⟨g, rfl, hg2, fun i hi => ?_⟩
    have hi : i < ls.length := by simpa [pgOf] using hi
    have hx : (pgOf xs ls).lns.getD i default = (ls[i]).ln := by simp only [pgOf]; rw [List.getD_eq_getElem?_getD, List.getElem?_map, List.getElem?_eq_getElem hi]; rfl
    rw [hx]
    have hc : ∀ j, j < 3 → w.cell? ⟨g, i * 3 + j, none⟩ = (ls[i]).cells[j]? := fun j hj => by
      rw [World.ownsRow.cellAt h.owl _ (by omega), flatL_get ls i j hi hj]
    exact ⟨hc 0 (by omega), hc 1 (by omega), _, _, hc 2 (by omega), (h.its _ (List.getElem_mem hi)).2, (h.its _ (List.getElem_mem hi)).1⟩
  · have hl : 0 < xs.length := by simpa [pgOf] using hl
    obtain ⟨g, cap, e, hg1, hg2⟩ := h.owi.form hl
    injection e with e1 e2 e3
    subst e1 e3
    refine ⟨g, rfl, hg2, fun i hi => ?_⟩
    have hi : i < xs.length := by simpa [pgOf] using hi
    have hx : (pgOf xs ls).ins.getD i default = (xs[i]).inp := by simp only [pgOf]; rw [List.getD_eq_getElem?_getD, List.getElem?_map, List.getElem?_eq_getElem hi]; rfl
    rw [hx]
    have hc : ∀ j, j < 3 → w.cell? ⟨g, i * 3 + j, none⟩ = (xs[i]).cells[j]? := fun j hj => by
      rw [World.ownsRow.cellAt h.owi _ (by omega), flatN_get xs i j hi hj]
    exact ⟨hc 0 (by omega), hc 1 (by omega), _, _, hc 2 (by omega), (h.sds _ (List.getElem_mem hi)).2, (h.sds _ (List.getElem_mem hi)).1⟩
/-- What Parse answers: counts as they are given. -/
def ParOk (w : World) (p : Pg) (n m : Nat) (e : Ending) (w' : World) : Prop := ∃ Ai ci Al cl, e = .returned (.tuple #[.agg #[.slice Ai n ci, .slice Al m cl], .agg #[.int .i64 0, .int .i64 0]]) ∧ PR w' Ai Al p ∧ Below w.heap.size w w' ∧ n ≤ ci ∧ m ≤ cl
theorem parse_is (s : ByteArray) (w : World) (p : Pg) (n m : Nat) (hx : parseR s.data.toList = .ok p) (hn : p.ins.length = n) (hm : p.lns.length = m) (hL : LaidP w) (hs : s.size ≤ 140737488355328) : Calls Tryz.prog 13 #[.string s] w (ParOk w p n m) := by
  refine (parse_any s w hL hs).mono fun e w' ⟨xs, ls, vi, vl, he, hp, hv, hb⟩ => ?_
  rw [hx] at he hp
  obtain ⟨Ai, ci, rfl, h1⟩ := row_shape hv.owi
  obtain ⟨Al, cl, rfl, h2⟩ := row_shape hv.owl
  have hr := hv.read
  rw [hp] at hr
  have e1 : xs.length = n := by rw [← hn]; have := congrArg (fun p : Pg => p.ins.length) hp; simpa [pgOf, Pr.pg] using this
  have e2 : ls.length = m := by rw [← hm]; have := congrArg (fun p : Pg => p.lns.length) hp; simpa [pgOf, Pr.pg] using this
  rw [e1] at he h1
  rw [e2] at he h2
  exact ⟨Ai, ci, Al, cl, he, hr, hb, h1, h2⟩
def ParErr (w : World) (a c : Int) (e : Ending) (w' : World) : Prop := ∃ Ai ci Al cl, e = .returned (.tuple #[.agg #[.slice Ai 0 ci, .slice Al 0 cl], .agg #[.int .i64 a, .int .i64 c]]) ∧ Below w.heap.size w w'
theorem parse_no (s : ByteArray) (w : World) (a c : Int) (hx : parseR s.data.toList = .err a c) (hL : LaidP w) (hs : s.size ≤ 140737488355328) : Calls Tryz.prog 13 #[.string s] w (ParErr w a c) := by
  refine (parse_any s w hL hs).mono fun e w' ⟨xs, ls, vi, vl, he, hp, hv, hb⟩ => ?_
  rw [hx] at he hp
  obtain ⟨Ai, ci, rfl, h1⟩ := row_shape hv.owi
  obtain ⟨Al, cl, rfl, h2⟩ := row_shape hv.owl
  have e1 : xs.length = 0 := by have := congrArg (fun p : Pg => p.ins.length) hp; simpa [pgOf, Pr.pg] using this
  have e2 : ls.length = 0 := by have := congrArg (fun p : Pg => p.lns.length) hp; simpa [pgOf, Pr.pg] using this
  rw [e1, e2] at he
  exact ⟨Ai, ci, Al, cl, he, hb⟩
/-- A program and a fault, in blocks of one's own. -/
def PFAt (w : World) (b : Nat) (Ai : Option Addr) (n ci : Nat) (Al : Option Addr) (m cl : Nat) (a c : Int) : Prop :=
  w.cell? ⟨b, 0, none⟩ = some (.slice Ai n ci) ∧ w.cell? ⟨b, 1, none⟩ = some (.slice Al m cl) ∧ w.cell? ⟨b + 1, 0, none⟩ = some (.int .i64 a) ∧ w.cell? ⟨b + 1, 1, none⟩ = some (.int .i64 c) ∧ b + 1 < w.heap.size
def pfW (w : World) (Ai : Option Addr) (n ci : Nat) (Al : Option Addr) (m cl : Nat) (a c : Int) : World := (w.alloc (.cells #[.slice Ai n ci, .slice Al m cl] 25)).alloc (.cells #[.int .i64 a, .int .i64 c] 41)
theorem pfw_bel (w : World) (Ai : Option Addr) (n ci : Nat) (Al : Option Addr) (m cl : Nat) (a c : Int) : Below w.heap.size w (pfW w Ai n ci Al m cl a c) := ((Below.refl _ _).alloc (Nat.le_refl _) _).alloc (by simp) _
theorem PFAt.new (w : World) (Ai : Option Addr) (n ci : Nat) (Al : Option Addr) (m cl : Nat) (a c : Int) : PFAt (pfW w Ai n ci Al m cl a c) w.heap.size Ai n ci Al m cl a c := by
  unfold pfW
  refine ⟨?_, ?_, ?_, ?_, ?_⟩
  · rw [cell_of_row _ _ _ _ _ _ (box1 w _ _)]; rfl
  · rw [cell_of_row _ _ _ _ _ _ (box1 w _ _)]; rfl
  · rw [cell_of_row _ _ _ _ _ _ (box2 w _ _)]; rfl
  · rw [cell_of_row _ _ _ _ _ _ (box2 w _ _)]; rfl
  · simp
theorem PFAt.below {w w' : World} {b : Nat} {Ai : Option Addr} {n ci : Nat} {Al : Option Addr} {m cl : Nat} {a c : Int} (h : PFAt w b Ai n ci Al m cl a c) (hb : Below w.heap.size w w') : PFAt w' b Ai n ci Al m cl a c := by
  obtain ⟨h0, h1, h2, h3, h4⟩ := h
  exact ⟨(cell_below hb (by omega) _).trans h0, (cell_below hb (by omega) _).trans h1, (cell_below hb h4 _).trans h2, (cell_below hb h4 _).trans h3, Nat.lt_of_lt_of_le h4 hb.size⟩
def pg1 : Pg := ⟨[⟨[120], 3, [([110], 0)]⟩], [⟨[121], 8, [⟨1, 11, 0, [], [1, 2]⟩, ⟨2, 17, 0, [120], []⟩, ⟨4, 15, 1, [], []⟩]⟩, ⟨[], 19, [⟨2, 26, 0, [121], []⟩, ⟨2, 30, 0, [120], []⟩, ⟨4, 28, 3, [], []⟩, ⟨5, 23, 1, [], []⟩]⟩]⟩
theorem read1 : parseR [105, 110, 32, 120, 32, 110, 10, 10, 121, 58, 32, 49, 32, 50, 32, 43, 32, 120, 10, 111, 117, 116, 32, 43, 47, 32, 121, 32, 42, 32, 120, 10] = .ok pg1 := by rw [← parseF_eq (by decide)]; rfl
theorem read2 : parseR [111, 117, 116, 32, 105, 111, 116, 97, 47, 32, 49] = .err 4 43 := by rw [← parseF_eq (by decide)]; rfl
theorem read3 : parseR [111, 117, 116, 32, 40, 49] = .err 6 42 := by rw [← parseF_eq (by decide)]; rfl
theorem read4 : parseR [111, 117, 116, 32, 97, 32, 98] = .err 6 46 := by rw [← parseF_eq (by decide)]; rfl
end Go.Proofs.YtbapgdhcbfpdoaaGreatDoor
/- Contract: shown, layer 4's examples. Written by gen_sh.py. -/
namespace Go.Proofs.YtbapgdhcbfpdoaaGreatDoor
open Go.RowKit
theorem getD0 {α : Type} [Inhabited α] (a : α) (l : List α) : (a :: l).getD 0 default = a := rfl
theorem idxL (b len c i : Nat) (h1 : i < len) (w : World) : (Instr.indexAt 23 (.slice (some ⟨b, 0, none⟩) len c) (.int .i64 (i : Int))).run Tryz.prog w = .ok (.pointer (some ⟨b, i * 3, none⟩)) w := by
  go_simp
theorem idxI (b o len c i : Nat) (h1 : i < len) (w : World) : (Instr.indexAt 31 (.slice (some ⟨b, o, none⟩) len c) (.int .i64 (i : Int))).run Tryz.prog w = .ok (.pointer (some ⟨b, o + i * 5, none⟩)) w := by
  go_simp
end Go.Proofs.YtbapgdhcbfpdoaaGreatDoor
