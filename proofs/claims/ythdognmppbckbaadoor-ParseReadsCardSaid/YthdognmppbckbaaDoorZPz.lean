/- The document's Parse. Written by gen_zo.py. -/
import Derived.Deep.LoopGhost
import Derived.Test.YthdognmppbckbaaDoorZPy
namespace Go.Proofs.YthdognmppbckbaaDoor
open Go.RowKit
set_option linter.unusedVariables false
theorem PS.onT {w w' : World} {P : Nat} {xs : List NM} {ls : List LM} {vi vl : Value} {S : Nat → Prop} (h : PS w P xs ls vi vl) (F : Fr S w w') (hS : ∀ k, k < w.heap.size → S k → ∃ cs fr, w.heap[k]? = some (.cells cs 61 fr)) : PS w' P xs ls vi vl := by
  have hk : ∀ (b : Nat) (cs' : Array Value) (T : TypeId) (fr' : Nat × Nat), w.heap[b]? = some (.cells cs' T fr') → T ≠ 61 → w'.heap[b]? = w.heap[b]? := fun b cs' T fr' hb hT => F.block b (heap_lt hb) (fun hs => by
    obtain ⟨cs, fr, e⟩ := hS b (heap_lt hb) hs
    exact ty_ne hb e hT rfl)
  refine ⟨(hk _ _ _ _ h.blk (by decide)).trans h.blk, row_keep h.owi (fun k hj _ => ?_) (Nat.le_refl _), row_keep h.owl (fun k hj _ => ?_) (Nat.le_refl _), fun m hm => ⟨RdI.grow (h.its m hm).1 F.size fun b cs' T fr' hb hT => hk b cs' T fr' hb (by rcases hT with rfl | rfl <;> decide), (h.its m hm).2⟩, fun m hm => ⟨RdS.grow (h.sds m hm).1 F.size fun b cs' fr' hb => hk b cs' _ fr' hb (by decide), (h.sds m hm).2⟩⟩
  · obtain ⟨cur, e⟩ := row_type h.owi hj; exact hk _ _ _ _ e (by decide)
  · obtain ⟨cur, e⟩ := row_type h.owl hj; exact hk _ _ _ _ e (by decide)
def TokW (t : Tk) : Prop := Tok t ∧ (t.k = 1 → wordB t.w = true) ∧ (t.k = 3 → wordB t.w = false)
/-- All tokens, with the text's end, as they lie. -/
structure DC (W0 : World) (P g : Nat) (TS : List Tk) (N : Nat) : Prop where
  tok : ∀ j, j < N → Cells4 W0 g (j * 4) (TS.getD j default)
  gP : g < P
  hN : TS.length = N
  last : ∀ j, j + 1 = N → (TS.getD j default).k = 4
  all : ∀ t ∈ TS, TokW t
  n0 : 0 < N
  P0 : P < W0.heap.size
/-- What the loop over tokens holds: U, the line's so far. -/
structure DI (W0 : World) (P : Nat) (e : Int) (TS : List Tk) (N i : Nat) (U : List Tk) (xs : List NM) (ls : List LM) (vi vl : Value) (A : Option Addr) (cu : Nat) (wx : World) : Prop where
  run : linesR e ⟨[], []⟩ TS = linesR e (pgOf xs ls) (U ++ TS.drop i)
  gd : ∀ t ∈ U, TokW t ∧ t.k ≠ 4
  own : Own wx (P + 1) (.slice A U.length cu) U
  ps : PS wx P xs ls vi vl
  kp : Below P W0 wx
  cnt : xs.length + ls.length ≤ 64
  hi : i ≤ N
  hU : U.length ≤ i
  fin : i = N → U = []
theorem DC.at {W0 wx : World} {P g : Nat} {TS : List Tk} {N : Nat} (h : DC W0 P g TS N) (hb : Below P W0 wx) {i : Nat} (hi : i < N) : Cells4 wx g (i * 4) (TS.getD i default) := cells4_keep (h.tok i hi) (hb.block g h.gP)
theorem DI.push {W0 : World} {P g : Nat} {e : Int} {TS : List Tk} {N i : Nat} {U : List Tk} {xs : List NM} {ls : List LM} {vi vl : Value} {A : Option Addr} {cu : Nat} {wx w4 : World} (h : DI W0 P e TS N i U xs ls vi vl A cu wx) (hc : DC W0 P g TS N) (hi : i < N) (hk : (TS.getD i default).k ≠ 4) {x : Obj} {q cap : Nat}
    (hgrow : (wx.alloc x).grownBy w4 (Value.slice A U.length cu).ownBlock) (hown : w4.ownsRow (P + 1) 61 4 (.slice (some ⟨q, 0, none⟩) (U.length + 1) cap) (U.length + 1) (U.flatMap Tk.cells ++ (TS.getD i default).cells)) :
    DI W0 P e TS N (i + 1) (U ++ [TS.getD i default]) xs ls vi vl (some ⟨q, 0, none⟩) cap w4 := by
  have hnn := hc.hN
  have hPl := h.ps.lt
  have hxs : (wx.alloc x).heap.size = wx.heap.size + 1 := by simp
  have hb0 : ∀ j, (Value.slice A U.length cu).ownBlock = some j → P + 1 ≤ j := fun j hj => (row_base h.own hj).1
  have hfr : Fr (fun k => (Value.slice A U.length cu).ownBlock = some k) wx w4 := (below_fr (up x) _).trans (Fr.grown hgrow _ fun j hj => hj)
  refine ⟨?_, fun t ht => ?_, by rw [List.length_append]; exact Own.snoc hown, h.ps.onT hfr (fun k _ hk => ?_), h.kp.trans (((Below.refl P wx).alloc (by omega) x).grown hgrow (by rw [hxs]; omega) fun j hj => by have := hb0 j hj; omega), h.cnt, hi, by rw [List.length_append]; have := h.hU; simp; omega, fun e2 => ?_⟩
  · rw [h.run, drop_at (by omega)]; simp
  · rcases List.mem_append.1 ht with ht | ht
    · exact h.gd t ht
    · simp only [List.mem_singleton] at ht
      rw [ht]
      exact ⟨hc.all _ (getD_mem (by omega)), hk⟩
  · obtain ⟨cur, e2⟩ := row_type h.own hk
    exact ⟨cur, _, e2⟩
  · exact (hk (hc.last i e2)).elim
theorem DI.skip {W0 : World} {P g : Nat} {e : Int} {TS : List Tk} {N i : Nat} {xs : List NM} {ls : List LM} {vi vl : Value} {A : Option Addr} {cu : Nat} {wx : World} (h : DI W0 P e TS N i [] xs ls vi vl A cu wx) (hc : DC W0 P g TS N) (hi : i < N) (hk : (TS.getD i default).k = 4) : DI W0 P e TS N (i + 1) [] xs ls vi vl none 0 wx := by
  have hnn := hc.hN
  refine ⟨?_, fun t ht => (by cases ht), Own.nil _ _, h.ps, h.kp, h.cnt, hi, Nat.zero_le _, fun _ => rfl⟩
  rw [h.run, drop_at (by omega), List.nil_append, line_none hk]; rfl
theorem end_tok {t : Tk} (h : TokW t) (hk : t.k = 4) : t = ⟨4, t.a, [], 0⟩ := by
  obtain ⟨k, a, w, n⟩ := t
  obtain rfl : k = 4 := hk
  obtain ⟨h1, h2⟩ := h.1.2.1 rfl
  simp only at h1 h2
  rw [h1, h2]
theorem DI.rz {W0 : World} {P : Nat} {e : Int} {TS : List Tk} {N i : Nat} {U : List Tk} {xs : List NM} {ls : List LM} {vi vl : Value} {q cu : Nat} {wx : World} (h : DI W0 P e TS N i U xs ls vi vl (some ⟨q, 0, none⟩) cu wx) (hU : 0 < U.length) (E : Int) :
    RZ (wx.alloc (.cells #[.slice (some ⟨q, 0, none⟩) U.length cu, .int .i64 0, .int .i64 E, .int .i64 0, .int .i64 0, .int .i64 0] 70)) wx.heap.size q U U.length cu 0 E (0 : Nat) 0 0 := by
  obtain ⟨b, o, e1, hb, hc⟩ := h.own.rd hU
  injection e1 with e1
  injection e1 with e1 e2
  subst e1 e2
  refine ⟨heap_alloc_new wx _, rfl, by simp; omega, by omega, fun j hj => ?_⟩
  have := hc j hj
  rw [Nat.zero_add] at this
  exact cells4_keep this (heap_alloc_old _ _ hb)
/-- The two results' blocks. -/
def RB (w W : World) : Prop := W.heap[w.heap.size]? = some (.cells #[.slice none 0 0, .slice none 0 0] 26 (0, 0)) ∧ W.heap[w.heap.size + 1]? = some (.cells #[.int .i64 0, .int .i64 0] 29 (0, 0))
theorem RB.cells {w W : World} (h : RB w W) : W.cell? ⟨w.heap.size, 0, none⟩ = some (.slice none 0 0) ∧ W.cell? ⟨w.heap.size, 1, none⟩ = some (.slice none 0 0) ∧ W.cell? ⟨w.heap.size + 1, 0, none⟩ = some (.int .i64 0) ∧ W.cell? ⟨w.heap.size + 1, 1, none⟩ = some (.int .i64 0) ∧ W.frozen? ⟨w.heap.size, 0, none⟩ = false ∧ W.frozen? ⟨w.heap.size, 1, none⟩ = false ∧ W.frozen? ⟨w.heap.size + 1, 0, none⟩ = false ∧ W.frozen? ⟨w.heap.size + 1, 1, none⟩ = false ∧ w.heap.size < W.heap.size ∧ w.heap.size + 1 < W.heap.size :=
  ⟨by rw [cell_of_row _ _ _ _ _ _ h.1]; rfl, by rw [cell_of_row _ _ _ _ _ _ h.1]; rfl, by rw [cell_of_row _ _ _ _ _ _ h.2]; rfl, by rw [cell_of_row _ _ _ _ _ _ h.2]; rfl, frozen_of_row _ _ _ _ _ h.1, frozen_of_row _ _ _ _ _ h.1, frozen_of_row _ _ _ _ _ h.2, frozen_of_row _ _ _ _ _ h.2, heap_lt h.1, heap_lt h.2⟩
theorem RB.on {w W W' : World} (h : RB w W) {P : Nat} (hb : Below P W W') (hP : w.heap.size + 1 < P) : RB w W' := ⟨(hb.block _ (by omega)).trans h.1, (hb.block _ hP).trans h.2⟩
theorem ref_ok {w w5 : World} {P : Nat} {xs : List NM} {ls : List LM} {vi vl : Value} {x : Pr} (hx : x = .ok (pgOf xs ls)) (h : PS w5 P xs ls vi vl) (hB : RB w w5) (hb : Below w.heap.size w w5) (hP : w.heap.size + 1 < P) (v0 v1 : Value) :
    ParRes w x (.returned (.tuple #[.agg #[vi, vl], .agg #[.int .i64 0, .int .i64 0]])) ((((w5.setCell ⟨w.heap.size, 0, none⟩ vi).setCell ⟨w.heap.size, 1, none⟩ vl).setCell ⟨w.heap.size + 1, 0, none⟩ v0).setCell ⟨w.heap.size + 1, 1, none⟩ v1) := by
  subst hx
  refine ⟨xs, ls, vi, vl, rfl, rfl, h.out (n0 := w.heap.size) (n1 := w.heap.size + 1) (by omega) ?_ (by omega) hP hB.1 hB.2, bset2 (bset2 hb (Nat.le_refl _) _ _) (Nat.le_succ _) _ _⟩
  exact ((((Fr.refl _ _).set (.inl (.inl rfl)) _ _).set (.inl (.inl rfl)) _ _).set (.inl (.inr rfl)) _ _).set (.inl (.inr rfl)) _ _
theorem DI.start {w w2 w4 : World} {A : Option Addr} {c : Nat} {ts : List Tk} {n g cap : Nat} (ho : w2.ownsRow (w.heap.size + 2) 61 4 (.slice A ts.length c) ts.length (ts.flatMap Tk.cells)) (hb : Below w.heap.size w w2) (hz : w.heap.size + 2 ≤ w2.heap.size) (hrb : RB w w2)
    (hgrow : ((w2.alloc (.cells #[.int .i64 0, .int .i64 0] 29)).alloc (.cells #[.int .i64 4, .int .i64 n, .string ⟨#[]⟩, .int .i64 0] 61)).grownBy w4 (Value.slice A ts.length c).ownBlock)
    (hown : w4.ownsRow (w.heap.size + 2) 61 4 (.slice (some ⟨g, 0, none⟩) (ts.length + 1) cap) (ts.length + 1) (ts.flatMap Tk.cells ++ Tk.cells ⟨4, n, [], 0⟩))
    (hg : ∀ t ∈ ts, TokW t) :
    DI (w4.alloc (.cells #[.slice none 0 0, .slice none 0 0] 26)) w4.heap.size n (ts ++ [⟨4, n, [], 0⟩]) (ts.length + 1) 0 [] [] [] (.slice none 0 0) (.slice none 0 0) none 0 (w4.alloc (.cells #[.slice none 0 0, .slice none 0 0] 26)) ∧
    DC (w4.alloc (.cells #[.slice none 0 0, .slice none 0 0] 26)) w4.heap.size g (ts ++ [⟨4, n, [], 0⟩]) (ts.length + 1) ∧ RB w (w4.alloc (.cells #[.slice none 0 0, .slice none 0 0] 26)) ∧ Below w.heap.size w (w4.alloc (.cells #[.slice none 0 0, .slice none 0 0] 26)) ∧ w.heap.size + 1 < w4.heap.size := by
  have hsz := hgrow.size
  have hsz : w2.heap.size + 2 ≤ w4.heap.size := by simpa using hsz
  have hrow : ∀ k, (Value.slice A ts.length c).ownBlock = some k → w.heap.size + 2 ≤ k ∧ k < w2.heap.size := fun k hk => row_base ho hk
  have hold : ∀ k, k < w2.heap.size → k < w.heap.size + 2 → w4.heap[k]? = w2.heap[k]? := fun k h1 h2 => by
    rw [hgrow.block k (by simp; omega) (fun e => by have := hrow k e.symm; omega)]
    exact (heap_alloc_old _ _ (by simp; omega)).trans (heap_alloc_old _ _ h1)
  have hup : ∀ k, k < w4.heap.size → (w4.alloc (.cells #[.slice none 0 0, .slice none 0 0] 26)).heap[k]? = w4.heap[k]? := fun k hk => heap_alloc_old _ _ hk
  have hO := Own.snoc hown
  have hgb := row_base hown (k := g) rfl
  have hR := hO.rd (A := some ⟨g, 0, none⟩) (n := ts.length + 1) (c := cap)
  have hbz := hb.size
  refine ⟨⟨rfl, fun t ht => (by cases ht), Own.nil _ _, ⟨heap_alloc_new _ _, World.ownsRow_nil _ _ _ _, World.ownsRow_nil _ _ _ _, fun m hm => (by cases hm), fun m hm => (by cases hm)⟩, Below.refl _ _, by simp, Nat.zero_le _, Nat.zero_le _, fun _ => rfl⟩,
    ⟨fun j hj => ?_, hgb.2, by simp, fun j hj => ?_, fun t ht => ?_, Nat.succ_pos _, by simp⟩, ⟨(hup _ (by omega)).trans ((hold _ (by omega) (by omega)).trans hrb.1), (hup _ (by omega)).trans ((hold _ (by omega) (by omega)).trans hrb.2)⟩, ?_, by omega⟩
  · obtain ⟨b, o, e, _, hc⟩ := hR (by simp)
    injection e with e
    injection e with e1 e2
    subst e1 e2
    have := hc j (by simp; omega)
    rw [Nat.zero_add] at this
    exact cells4_keep this (hup _ hgb.2)
  · obtain rfl : j = ts.length := by omega
    rw [List.getD_eq_getElem?_getD, List.getElem?_append_right (Nat.le_refl _), Nat.sub_self]; rfl
  · rcases List.mem_append.1 ht with ht | ht
    · exact hg t ht
    · simp only [List.mem_singleton] at ht
      subst ht
      exact ⟨⟨.inr (.inr (.inr rfl)), fun _ => ⟨rfl, rfl⟩, fun h => (by cases h), fun h => (by rcases h with h | h <;> cases h), (by simp)⟩, fun h => (by cases h), fun h => (by cases h)⟩
  · exact ((((hb.alloc (by omega) _).alloc (by simp; omega) _).grown hgrow (by simp; omega) (fun k hk => by have := hrow k hk; omega))).alloc (by omega) _
set_option maxRecDepth 100000 in
set_option maxHeartbeats 1600000 in
theorem parse04_err (s : ByteArray) (w : World) (hs : s.size ≤ 140737488355328) (a x : Int) (hx : lexR s.data.toList = .err a x) (hx0 : x ≠ 0) : Calls Tryd.prog 13 #[.string s] w (ParRes w (.err a x)) := by
  have HLX := Lib.hid (fun W => refl_err s W a x hx hs)
  have hx1 : (x != 0) = true := by simpa using hx0
  have HB0 := Lib.hid (pf_below w)
  clear hx0 hx
  go_enter Tryd.func13, Tryd.ntmps13
  go_wp2_with fail
  refine (HLX.out _).mono ?_
  rintro e w2 ⟨A, c, rfl, hb⟩
  have h2 := (hb.block w.heap.size (by simp; omega)).trans (box1 w (.cells #[.slice none 0 0, .slice none 0 0] 26) (.cells #[.int .i64 0, .int .i64 0] 29))
  have h3 := (hb.block (w.heap.size + 1) (by simp)).trans (box2 w (.cells #[.slice none 0 0, .slice none 0 0] 26) (.cells #[.int .i64 0, .int .i64 0] 29))
  have hz := hb.size
  have hz : w.heap.size + 2 ≤ w2.heap.size := by simpa using hz
  obtain ⟨r0, r1, r4, r5, r2, r3, r6, r7, l0, l1⟩ := RB.cells ⟨h2, h3⟩
  have H1 := Lib.hid (chain2 HB0.out hb)
  clear hb h2 h3
  go_wp2
  go_region
  all_goals
    go_wp2
    refine bodyPost_ret (v := .tuple #[.agg #[.slice none 0 0, .slice none 0 0], .agg #[.int .i64 a, .int .i64 x]]) (by simp [results, Tryd.results13, go_sem, r0, r1, r4, r5, l0, l1]) rfl ?_
    exact ⟨[], [], _, _, rfl, rfl, PV.nil _ _, res_bel H1.out _ _ _ _ _⟩
set_option maxRecDepth 100000 in
set_option maxHeartbeats 12800000 in
theorem parse04_toks (s : ByteArray) (w : World) (hs : s.size ≤ 140737488355328) (ts : List Tk) (hx : lexR s.data.toList = .ok ts) : Calls Tryd.prog 13 #[.string s] w (ParRes w (parseR s.data.toList)) := by
  have HLX := Lib.hid (fun W => refl_own s W ts hx hs)
  have hgd := lexR_gd hx
  have hX := pz_ok hx
  rw [len_s] at hX hgd
  have HX := Lib.hid (And.intro hX (lex_lt hx))
  have hlen := hgd.2.1
  have hlen2 := hgd.2.2
  have HB0 := Lib.hid (pf_below w)
  obtain ⟨i0, hi, hz0, hz1, hz2⟩ := info_parts infoT
  have HI := Lib.hid (And.intro hi (And.intro hz0 (And.intro hz1 hz2)))
  clear hi hz0 hz1 hz2 hx hX hgd
  go_enter Tryd.func13, Tryd.ntmps13
  go_wp2_with fail
  refine (HLX.out _).mono ?_
  rintro e w2 ⟨A, c, rfl, ho, hb⟩
  have h2 := (hb.block w.heap.size (by simp; omega)).trans (box1 w (.cells #[.slice none 0 0, .slice none 0 0] 26) (.cells #[.int .i64 0, .int .i64 0] 29))
  have h3 := (hb.block (w.heap.size + 1) (by simp)).trans (box2 w (.cells #[.slice none 0 0, .slice none 0 0] 26) (.cells #[.int .i64 0, .int .i64 0] 29))
  have hz := hb.size
  have hz : w.heap.size + 2 ≤ w2.heap.size := by simpa using hz
  have ho : w2.ownsRow (w.heap.size + 2) 61 4 (.slice A ts.length c) ts.length (ts.flatMap Tk.cells) := by simpa [Own] using ho
  have H1 := Lib.hid (And.intro ho (And.intro (chain2 HB0.out hb) (And.intro h2 h3)))
  have h63 : ts.length + 1 ≤ maxLen := by unfold maxLen; omega
  have h40 : (ts.length + 1) * 40 ≤ 140737488355328 := by omega
  clear hb h2 h3 ho HLX
  go_wp2_with (at_builtin; refine wpList_append_lies _ rfl (.tmp 22) (.tmp 26) _ rfl (w.heap.size + 2) 61 i0 _ 4 40 Tryd.underlying57 HI.out.1 HI.out.2.1 HI.out.2.2.1 HI.out.2.2.2 rfl (by omega) (.slice A ts.length c) ts.length (ts.flatMap Tk.cells) rfl ((H1.out.1.alloc _).alloc _) ⟨w2.heap.size + 1, 0, none⟩ 1 1 (Tk.cells ⟨4, s.size, [], 0⟩) rfl rfl (newsN _ _ (by simp) #[.int .i64 4, .int .i64 s.size, .string ⟨#[]⟩, .int .i64 0] _) (oneCells _) (by omega) h63 h40 (by simp; omega) (w2.heap.size + 2) (by simp) ?_; intro g cap w4 hown4 hgrow hat hlt4; have HS := Lib.hid (DI.start H1.out.1 H1.out.2.1 hz H1.out.2.2 hgrow hown4 HX.out.2); clear hown4 hgrow hat)
  obtain ⟨W0, hW0⟩ : ∃ W, W = w4.alloc (.cells #[.slice none 0 0, .slice none 0 0] 26) := ⟨_, rfl⟩
  obtain ⟨P, hP⟩ : ∃ P, P = w4.heap.size := ⟨_, rfl⟩
  obtain ⟨N, hN⟩ : ∃ N, N = ts.length + 1 := ⟨_, rfl⟩
  obtain ⟨TS, hTS⟩ : ∃ TS, TS = ts ++ [(⟨4, s.size, [], 0⟩ : Tk)] := ⟨_, rfl⟩
  replace HS := Lib.hid (by have h := HS.out; rw [← hW0, ← hP, ← hN, ← hTS] at h; exact h)
  have HRN := Lib.hid (show parseR s.data.toList = linesR s.size ⟨[], []⟩ TS by rw [HX.out.1, hTS])
  have hN7 : N ≤ 65537 := by omega
  rw [← hW0, ← hP, ← hN]
  clear hW0 hP hN hTS H1 hz hlt4 HX hlen h63 h40
  go_loopg [7, 8, 9, 10] N (fun gk s7 s8 s9 s10 wx => ∃ (i cnt : Nat) (ov : Bool) (U : List Tk) (xs : List NM) (ls : List LM) (vi vl : Value) (A : Option Addr) (cu : Nat), i + gk = N ∧ s7 = .slice A U.length cu ∧ s8 = .int .i64 cnt ∧ s9 = .bool ov ∧ s10 = .int .i64 i ∧ Hid (cnt = xs.length + ls.length ∧ ov = compl (pgOf xs ls)) ∧ Hid (DI W0 P s.size TS N i U xs ls vi vl A cu wx))
  case atStart => exact ⟨0, 0, false, [], [], [], _, _, none, 0, by omega, rfl, rfl, rfl, rfl, ⟨rfl, rfl⟩, HS.out.1⟩
  case round =>
    obtain ⟨i, cnt, ov, U, xs, ls, vi, vl, A, cu, hgi, rfl, rfl, rfl, rfl, HQ, HV⟩ := hrel
    have HRB := Lib.hid (HS.out.2.2.1.on HV.out.kp HS.out.2.2.2.2)
    have HBL := Lib.hid (HS.out.2.2.2.1.trans (HV.out.kp.mono (by have := HS.out.2.2.2.2; omega)))
    have hPl := HV.out.ps.lt
    by_cases hlt : i < N
    · obtain ⟨t, ht⟩ : ∃ t, t = TS.getD i default := ⟨_, rfl⟩
      have HTT := Lib.hid ht
      obtain ⟨k0, k1, k2, k3⟩ := HS.out.2.1.at HV.out.kp hlt
      rw [← ht] at k0 k1 k2 k3
      have q1 := idxTo g N cap i hlt
      have hgl : g < wr.heap.size := by have := HS.out.2.1.gP; omega
      have hUl : U.length ≤ 65537 := by have := HV.out.hU; omega
      cases gk with
      | zero => exact absurd hlt (by omega)
      | succ gk =>
      by_cases hk4 : t.k = 4
      · have hk : (t.k != 4) = false := by rw [hk4]; rfl
        have HK4 := Lib.hid hk4
        clear ht hk4
        rcases List.eq_nil_or_concat U with rfl | ⟨U0, u0, hU0⟩
        · have HN := Lib.hid (HV.out.skip HS.out.2.1 hlt (by rw [← HTT.out]; exact HK4.out))
          go_wp2
          go_roundg gk
          case measure => omega
          case rel => exact ⟨i + 1, cnt, ov, [], xs, ls, vi, vl, none, 0, by omega, rfl, rfl, rfl, by go_num, HQ, HN⟩
        · have hUp : 0 < U.length := by rw [hU0]; simp
          obtain ⟨q, cq, e1, hq1, hq2⟩ := HV.out.own.form hUp
          injection e1 with e2 _ e3
          subst e2
          have HET := Lib.hid (end_tok (HS.out.2.1.all t (by rw [HTT.out]; exact getD_mem (by rw [HS.out.2.1.hN]; exact hlt))) HK4.out)
          have HLT := Lib.hid (lt_of (fun u hu => (HV.out.gd u hu).1) (fun u hu => (HV.out.gd u hu).2))
          have hU0d : (0 : Int) < (U.length : Int) := by omega
          have HLN := Lib.hid (line04_any _ wr.heap.size q U.length cu U t.a (HV.out.rz hUp t.a) (by simp; omega) hUp (by omega) HLT.out.1 HLT.out.2 P xs ls vi vl (HV.out.ps.keep (up _)) cnt HQ.out.1 (by have := HV.out.cnt; have := HQ.out.1; omega) ov HQ.out.2)
          clear hU0 e3
          obtain ⟨x, hx⟩ : ∃ x, x = addR (pgOf xs ls) (U ++ [t]) := ⟨_, rfl⟩
          have HLX := Lib.hid (show Calls _ _ _ _ (LnAns _ _ _ _ _ _ _ _ _ _ _ _ x) from (by have h := HLN.out; rw [show tl U t.a 0 = U ++ [t] from (by rw [HET.out]; rfl), ← hx] at h; exact h))
          have HXX := Lib.hid hx
          clear HLN hx
          go_wp2_with fail
          refine HLX.out.mono ?_
          rintro e w6 ⟨rfl, f6, I', fa, fc, hR6, ok6⟩
          have hb6 := f6.below (B := P) (by simp; omega) (fun k hk => by
            rcases hk with h1 | h1
            · omega
            · exact (HV.out.ps.base k h1).1)
          have HB6 := Lib.hid (((Below.refl P wr).alloc (Nat.le_of_lt hPl) _).trans hb6)
          have HR6 := Lib.hid hR6
          have j4 : w6.cell? ⟨wr.heap.size, 4, none⟩ = some (.int .i64 fa) := by rw [cell_of_row _ _ _ _ _ _ hR6]; rfl
          have j5 : w6.cell? ⟨wr.heap.size, 5, none⟩ = some (.int .i64 fc) := by rw [cell_of_row _ _ _ _ _ _ hR6]; rfl
          have hRl6 := heap_lt hR6
          clear f6 hb6 hR6 HLX
          cases x with
          | err a c =>
            obtain ⟨rfl, rfl, hne⟩ := ok6
            have HRUN := Lib.hid (show parseR s.data.toList = .err fa fc by
              rw [HRN.out, HV.out.run, drop_at (by rw [HS.out.2.1.hN]; exact hlt), ← HTT.out]
              exact line_bad (fun u hu => (HV.out.gd u hu).2) HK4.out HXX.out.symm)
            have HRB6 := Lib.hid (HRB.out.on HB6.out HS.out.2.2.2.2)
            obtain ⟨r0, r1, r4, r5, r2, r3, r6, r7, l0, l1⟩ := HRB6.out.cells
            have H6 := Lib.hid (HBL.out.trans (HB6.out.mono (by have := HS.out.2.2.2.2; omega)))
            go_wp2
            go_region
            all_goals
              go_wp2
              refine bodyPost_ret (v := .tuple #[.agg #[.slice none 0 0, .slice none 0 0], .agg #[.int .i64 fa, .int .i64 fc]]) (by simp [results, Tryd.results13, go_sem, r0, r1, r4, r5]) rfl ?_
              exact par_bad HRUN.out (by first | exact bset2 (bset2 (bel_drew H6.out) (Nat.le_refl _) _ _) (Nat.le_succ _) _ _ | exact bset2 (bset2 H6.out (Nat.le_refl _) _ _) (Nat.le_succ _) _ _)
          | ok p =>
            obtain ⟨rfl, rfl, xs', ls', vi', vl', ps', hp, hn1, hn2, hcnt⟩ := ok6
            have hrun : linesR s.size (pgOf xs ls) (U ++ TS.drop i) = linesR s.size (pgOf xs' ls') ([] ++ TS.drop (i + 1)) := by
              rw [drop_at (by rw [HS.out.2.1.hN]; exact hlt), ← HTT.out, List.nil_append, hp]
              exact line_good (fun u hu => (HV.out.gd u hu).2) HK4.out HXX.out.symm
            have HN := Lib.hid (show DI W0 P s.size TS N (i + 1) [] xs' ls' vi' vl' none 0 w6 from ⟨HV.out.run.trans hrun, fun u hu => (by cases hu), Own.nil _ _, ps', HV.out.kp.trans HB6.out, by have := add_cnt HXX.out.symm (by have := HV.out.cnt; simpa [Pg.cnt, pgOf] using this); rw [← hp] at this; simpa [Pg.cnt, pgOf] using this, hlt, Nat.zero_le _, fun _ => rfl⟩)
            have HC := Lib.hid hcnt
            have hc64 : cnt ≤ 64 := by have := HV.out.cnt; have := HQ.out.1; omega
            have hl64 : ls'.length ≤ 64 := by have := HN.out.cnt; omega
            obtain ⟨Al, cl, rfl, hcl⟩ := row_shape HN.out.ps.owl
            obtain ⟨-, p1, -⟩ := HN.out.ps.cells
            have hPl6 := HN.out.ps.lt
            clear hcnt hn1 hn2 ps' hp hrun
            rcases List.eq_nil_or_concat ls' with rfl | ⟨l0, m, rfl⟩
            · go_wp2
              go_roundg gk
              case measure => omega
              case rel => exact ⟨i + 1, cnt + 1, false, [], xs', [], vi', _, none, 0, by omega, rfl, by go_num, rfl, by go_num, ⟨by have := HC.out; have := HQ.out.1; omega, rfl⟩, HN⟩
            · have hlc : (l0.concat m).length = l0.length + 1 := by simp
              obtain ⟨g2, cap2, e4, hg4, hg5⟩ := HN.out.ps.owl.form (by rw [hlc]; omega)
              injection e4 with e5 e6 e7
              subst e5
              have hc0 : w6.cell? ⟨g2, l0.length * 3, none⟩ = some (.string (bs m.ln.nm)) := by
                have h1 := World.ownsRow.cellAt HN.out.ps.owl (l0.length * 3 + 0) (by rw [hlc]; omega)
                rw [flatL_get _ _ _ (by rw [hlc]; omega) (by omega)] at h1
                simpa [LM.cells] using h1
              have hqx : ∀ W : World, (Instr.indexAt 24 (.slice (some ⟨g2, 0, none⟩) (l0.length + 1) cl) (.int .i64 (l0.length : Int))).run Tryd.prog W = .ok (.pointer (some ⟨g2, l0.length * 3, none⟩)) W := fun W => idxLn g2 (l0.length + 1) cl l0.length (by omega) W
              have hxc := Lib.hid (show compl (pgOf xs' (l0.concat m)) = (m.ln.nm == []) by simp [compl, pgOf])
              rw [hlc] at p1 hl64
              have hw1 : IntKind.i64.wrap ((l0.length : Int) + 1 - 1) = (l0.length : Int) := by rw [Go.IntWalk.i64_in _ (by omega)]; omega
              clear e6 e7 hlc
              by_cases hnm : m.ln.nm = []
              · have hy := Lib.hid (show (m.ln.nm == []) = true by simp [hnm])
                have hz9 := cmpYes hnm
                clear hnm
                go_wp2
                go_roundg gk
                case measure => omega
                case rel => exact ⟨i + 1, cnt + 1, true, [], xs', l0.concat m, vi', _, none, 0, by omega, rfl, by go_num, rfl, by go_num, ⟨by have := HC.out; have := HQ.out.1; omega, (hxc.out.trans hy.out).symm⟩, HN⟩
              · have hy := Lib.hid (show (m.ln.nm == []) = false by simp [hnm])
                have hz9 := cmpNo hnm
                clear hnm
                go_wp2
                go_roundg gk
                case measure => omega
                case rel => exact ⟨i + 1, cnt + 1, false, [], xs', l0.concat m, vi', _, none, 0, by omega, rfl, by go_num, rfl, by go_num, ⟨by have := HC.out; have := HQ.out.1; omega, (hxc.out.trans hy.out).symm⟩, HN⟩
      · have hk : (t.k != 4) = true := by simpa using hk4
        have HK4 := Lib.hid hk4
        have h63 : U.length + 1 ≤ maxLen := by unfold maxLen; omega
        have h40 : (U.length + 1) * 40 ≤ 140737488355328 := by omega
        clear ht hk4
        go_wp2_with (at_builtin; refine wpList_append_lies _ rfl (.tmp 40) (.tmp 45) _ rfl (P + 1) 61 i0 _ 4 40 Tryd.underlying57 HI.out.1 HI.out.2.1 HI.out.2.2.1 HI.out.2.2.2 rfl (by omega) (.slice A U.length cu) U.length (U.flatMap Tk.cells) rfl (HV.out.own.alloc _) ⟨wr.heap.size, 0, none⟩ 1 1 (Tk.cells t) rfl rfl (newsN _ _ (by simp) #[.int .i64 t.k, .int .i64 t.a, .string (bs t.w), .int .i64 t.n] _) (oneCells _) (by omega) h63 h40 (by simp; omega) (wr.heap.size + 1) (by simp) ?_; intro q cap2 wz hownz hgrow hat hltz; have HN := Lib.hid (HV.out.push HS.out.2.1 hlt (by rw [← HTT.out]; exact HK4.out) hgrow (by rw [← HTT.out]; exact hownz)); clear hgrow hownz hat)
        go_roundg gk
        case measure => omega
        case rel => exact ⟨i + 1, cnt, ov, _, xs, ls, vi, vl, _, cap2, by omega, by rw [List.length_append]; rfl, rfl, rfl, by go_num, HQ, HN⟩
    · have hiN : i = N := by omega
      have hU := HV.out.fin hiN
      have HRUN := Lib.hid (show parseR s.data.toList = if compl (pgOf xs ls) then .ok (pgOf xs ls) else .err s.size 42 by
        rw [HRN.out, HV.out.run, hU, List.drop_of_length_le (by rw [HS.out.2.1.hN]; omega), List.append_nil, lines_nil])
      obtain ⟨Ai, ci, rfl, hci⟩ := row_shape HV.out.ps.owi
      obtain ⟨Al, cl, rfl, hcl⟩ := row_shape HV.out.ps.owl
      obtain ⟨r0, r1, r4, r5, r2, r3, r6, r7, l0, l1⟩ := HRB.out.cells
      obtain ⟨p0, p1, -⟩ := HV.out.ps.cells
      have hP1 := HS.out.2.2.2.2
      have n01 : ¬ w.heap.size = P := by omega
      have n02 : ¬ P = w.heap.size := by omega
      have n03 : ¬ w.heap.size + 1 = P := by omega
      have n04 : ¬ P = w.heap.size + 1 := by omega
      have HOV := Lib.hid HQ.out.2
      clear hU hiN
      cases ov with
      | true =>
        replace HRUN := Lib.hid (show parseR s.data.toList = .ok (pgOf xs ls) by rw [HRUN.out, ← HOV.out]; rfl)
        go_wp2
        refine bodyPost_ret (v := .tuple #[.agg #[.slice Ai xs.length ci, .slice Al ls.length cl], .agg #[.int .i64 0, .int .i64 0]]) (by simp [results, Tryd.results13, go_sem, r0, r1, r4, r5]) rfl ?_
        exact ref_ok HRUN.out HV.out.ps HRB.out HBL.out hP1 _ _
      | false =>
        replace HRUN := Lib.hid (show parseR s.data.toList = .err s.size 42 by rw [HRUN.out, ← HOV.out]; rfl)
        go_wp2
        refine bodyPost_ret (v := .tuple #[.agg #[.slice none 0 0, .slice none 0 0], .agg #[.int .i64 s.size, .int .i64 42]]) (by simp [results, Tryd.results13, go_sem, r0, r1, r4, r5]) rfl ?_
        exact par_bad HRUN.out (bset2 (bset2 HBL.out (Nat.le_refl _) _ _) (Nat.le_succ _) _ _)
theorem parse04_any (s : ByteArray) (w : World) (hs : s.size ≤ 140737488355328) : Calls Tryd.prog 13 #[.string s] w (ParRes w (parseR s.data.toList)) := by
  cases hx : lexR s.data.toList with
  | ok ts => exact parse04_toks s w hs ts hx
  | err a c => rw [pz_bad hx]; exact parse04_err s w hs a c hx (lexR_nz hx)
end Go.Proofs.YthdognmppbckbaaDoor
