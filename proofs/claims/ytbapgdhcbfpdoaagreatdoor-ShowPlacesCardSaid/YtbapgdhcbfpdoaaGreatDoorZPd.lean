/- Layer 4, put together: ParE, ParEa, ParG, ParH. -/
import Derived.Test.YtbapgdhcbfpdoaaGreatDoorZU1
import Derived.Test.YtbapgdhcbfpdoaaGreatDoorZU2
import Derived.Test.YtbapgdhcbfpdoaaGreatDoorZU3
import Derived.Test.YtbapgdhcbfpdoaaGreatDoorZU4
import Derived.Test.YtbapgdhcbfpdoaaGreatDoorZU5
import Derived.Test.YtbapgdhcbfpdoaaGreatDoorZPc
import Derived.Test.YtbapgdhcbfpdoaaGreatDoorZM2
/- Contracts of the reader, put together; what an expression answers. -/
namespace Go.Proofs.YtbapgdhcbfpdoaaGreatDoor
open Go.RowKit

theorem mk_cases (l : List Tk) : (mk l).1 = [47] ∨ (mk l).1 = [92] ∨ (mk l).1 = [46] ∨ (mk l).1 = [] := by
  unfold mk
  split
  · simp
  · split
    · rename_i h; rcases h with h | h | h <;> simp [h]
    · simp
theorem phrase_any (w : World) (R b o c : Nat) (k : Int) (t u : Tk) (ts : List Tk) (ms : List IM) (tm : List (Option TE)) (vi vt : Value) (bb : Bool) (h : RS w R b o c k (t :: u :: ts) ms tm vi vt) (hL : LaidR w R) (hne : 0 < (mk (u :: ts)).2.length) :
    Calls Tryz.prog 74 #[.pointer (some ⟨R, 0, none⟩), .bool bb] w (Phr w R b k t (phR t.w bb (mk (u :: ts)).1) (mk (u :: ts)).2 ms tm vi vt) := by
  obtain ⟨m, us, hm⟩ : ∃ m us, mk (u :: ts) = (m, us) := ⟨_, _, rfl⟩
  have hc := mk_cases (u :: ts)
  rw [hm] at hne hc ⊢
  simp only at hne hc ⊢
  rcases hc with rfl | rfl | rfl | rfl <;> cases bb
  · rw [show phR t.w false [47] = (5, betw t.w) by simp [phR]]; exact phrase_fold w R b o c k t u ts ms tm vi vt h hL us hm hne
  · rw [show phR t.w true [47] = (0, 0) by simp [phR]]; exact phrase_no1 w R b o c k t u ts ms tm vi vt h hL us hm hne
  · rw [show phR t.w false [92] = (6, betw t.w) by simp [phR]]; exact phrase_scan w R b o c k t u ts ms tm vi vt h hL us hm hne
  · rw [show phR t.w true [92] = (0, 0) by simp [phR]]; exact phrase_no2 w R b o c k t u ts ms tm vi vt h hL us hm hne
  · rw [show phR t.w false [46] = (0, 0) by simp [phR]]; exact phrase_no3 w R b o c k t u ts ms tm vi vt h hL us hm hne
  · rw [show phR t.w true [46] = (7, betw t.w) by simp [phR]]; exact phrase_outer w R b o c k t u ts ms tm vi vt h hL us hm hne
  · rw [show phR t.w false [] = (3, verbR t.w false) by simp [phR]]; exact phrase_monad w R b o c k t u ts ms tm vi vt h hL us hm hne
  · rw [show phR t.w true [] = (4, verbR t.w true) by simp [phR]]; exact phrase_dyad w R b o c k t u ts ms tm vi vt h hL us hm hne
/-! ### what is read of an expression -/
def ItAt (w : World) (ok : Nat → Prop) (b o : Nat) (x : It) : Prop :=
  w.cell? ⟨b, o, none⟩ = some (.int .i64 x.how) ∧ w.cell? ⟨b, o + 1, none⟩ = some (.int .i64 x.pl) ∧ w.cell? ⟨b, o + 2, none⟩ = some (.int .u8 x.fn) ∧ w.cell? ⟨b, o + 3, none⟩ = some (.string (bs x.nm)) ∧ ∃ A c, w.cell? ⟨b, o + 4, none⟩ = some (.slice A x.ns.length c) ∧ RdN w ok A x.ns
def RdI (w : World) (ok : Nat → Prop) (A : Option Addr) (l : List It) : Prop := 0 < l.length → ∃ b o, A = some ⟨b, o, none⟩ ∧ (ok b ∧ ∃ cs fr, w.heap[b]? = some (.cells cs 37 fr)) ∧ ∀ i, i < l.length → ItAt w ok b (o + i * 5) (l.getD i default)
theorem RdI.nil (w : World) (ok : Nat → Prop) (A : Option Addr) : RdI w ok A [] := fun h => by simp at h
theorem ItAt.mono {w w' : World} {ok ok' : Nat → Prop} {b o : Nat} {x : It} (h : ItAt w ok b o x) (hb : w'.heap[b]? = w.heap[b]?) (hk : ∀ b, ok b → ok' b ∧ w'.heap[b]? = w.heap[b]?) : ItAt w' ok' b o x := by
  obtain ⟨h0, h1, h2, h3, A, c, h4, h5⟩ := h
  have e : ∀ j, w'.cell? ⟨b, j, none⟩ = w.cell? ⟨b, j, none⟩ := fun j => World.cell?_of_block (a := ⟨b, j, none⟩) hb
  exact ⟨(e _).trans h0, (e _).trans h1, (e _).trans h2, (e _).trans h3, A, c, (e _).trans h4, h5.mono hk⟩
theorem RdI.mono {w w' : World} {ok ok' : Nat → Prop} {A : Option Addr} {l : List It} (h : RdI w ok A l) (hk : ∀ b, ok b → ok' b ∧ w'.heap[b]? = w.heap[b]?) : RdI w' ok' A l := fun hl => by
  obtain ⟨b, o, e, ⟨h1, cs, fr, h3⟩, h2⟩ := h hl
  exact ⟨b, o, e, ⟨(hk b h1).1, cs, fr, by rw [(hk b h1).2]; exact h3⟩, fun i hi => (h2 i hi).mono (hk b h1).2 hk⟩
theorem flatI_len (l : List IM) : (l.flatMap IM.cells).length = l.length * 5 := by
  induction l with
  | nil => rfl
  | cons a l ih => simp only [List.flatMap_cons, List.length_append, ih, List.length_cons]; simp [IM.cells]; omega
theorem flatI_get : ∀ (l : List IM) (i j : Nat) (h : i < l.length), j < 5 → (l.flatMap IM.cells)[i * 5 + j]? = (l[i]).cells[j]?
  | [], i, j, h, _ => by simp at h
  | a :: t, 0, j, _, hj => by
    rw [List.flatMap_cons, List.getElem?_append_left (by simp [IM.cells]; omega)]; simp
  | a :: t, i + 1, j, h, hj => by
    have ih := flatI_get t i j (by simpa using h) hj
    rw [List.flatMap_cons, List.getElem?_append_right (by simp [IM.cells]; omega)]
    simp only [List.getElem_cons_succ]
    rw [← ih]
    congr 1
    simp only [IM.cells, List.length_cons, List.length_nil]
    omega
theorem row_heap {w : World} {base size n g m c : Nat} {e : TypeId} {xs : List Value} (h : w.ownsRow base e size (.slice (some ⟨g, 0, none⟩) m c) n xs) : ∃ cur, w.heap[g]? = some (.cells cur e (0, 0)) := by
  rcases h.2 with ⟨h1, _⟩ | ⟨g', cap', cur, h1, _, hh, _⟩
  · simp at h1
  · injection h1 with h1; injection h1 with h1; injection h1 with h1; subst h1; exact ⟨cur, hh⟩
/-- A row of items, with their numbers, reads as items. -/
theorem items_read {w : World} {base : Nat} {A : Option Addr} {c : Nat} {ms : List IM} {ok : Nat → Prop} (h : w.ownsRow base 37 5 (.slice A ms.length c) ms.length (ms.flatMap IM.cells)) (hok : ∀ g, A = some ⟨g, 0, none⟩ → base ≤ g → g < w.heap.size → ok g) (hn : ∀ m ∈ ms, RdN w ok m.A m.it.ns) : RdI w ok A (ms.map (·.it)) := by
  intro hl
  rw [List.length_map] at hl
  obtain ⟨g, cap, e, hg1, hg2⟩ := h.form hl
  injection e with e1 e2 e3
  subst e1 e3
  obtain ⟨cur, hcur⟩ := row_heap h
  refine ⟨g, 0, rfl, ⟨hok g rfl hg1 hg2, cur, (0, 0), hcur⟩, fun i hi => ?_⟩
  rw [List.length_map] at hi
  have hx : (ms.map (·.it)).getD i default = (ms[i]).it := by rw [List.getD_eq_getElem?_getD, List.getElem?_map, List.getElem?_eq_getElem hi]; rfl
  rw [hx]
  have hc : ∀ j, j < 5 → w.cell? ⟨g, 0 + i * 5 + j, none⟩ = (ms[i]).cells[j]? := fun j hj => by
    rw [Nat.zero_add, World.ownsRow.cellAt h _ (by omega), flatI_get ms i j hi hj]
  exact ⟨hc 0 (by omega), hc 1 (by omega), hc 2 (by omega), hc 3 (by omega), (ms[i]).A, (ms[i]).c, hc 4 (by omega), hn _ (List.getElem_mem hi)⟩
def ExRes (w : World) (x : Er) (e : Ending) (w' : World) : Prop := match x with
  | .ok l => ∃ A c, e = .returned (.tuple #[.slice A l.length c, .agg #[.int .i64 0, .int .i64 0]]) ∧ l.length ≤ c ∧ RdI w' (fun j => j < w'.heap.size) A l ∧ Below w.heap.size w w'
  | .err a x => e = .returned (.tuple #[.slice none 0 0, .agg #[.int .i64 a, .int .i64 x]]) ∧ Below w.heap.size w w'
end Go.Proofs.YtbapgdhcbfpdoaaGreatDoor
/- Contract of package parse: expression. Written by gen_e.py. -/
namespace Go.Proofs.YtbapgdhcbfpdoaaGreatDoor
open Go.RowKit

/-- What the loop over an expression's tokens holds. -/
structure EI (w : World) (b : Nat) (ts : List Tk) (bb : Bool) (us : List Tk) (ms : List IM) (tm : List (Option TE)) (vi vt : Value) (o' c' : Nat) (wx : World) : Prop where
  rs : RS wx (w.heap.size + 1) b o' c' (opens (tm.map titem) : Nat) us ms tm vi vt
  run : exprR ts = mrun us bb (ms.map (·.it)) (tm.map titem)
  bl : Below w.heap.size w wx
  fl : wx.heap[w.heap.size]? = some (.cells #[.int .i64 0, .int .i64 0] 41 (0, 0))
  en : Ends us
  lw : ∀ t ∈ us, t.w.length ≤ 1000
  lr : LaidR wx (w.heap.size + 1)
  hz : w.heap.size + 2 ≤ wx.heap.size
/-- The blocks of a round's own variables: F: the fault, F + 1: the next token. -/
structure EB (w : World) (F : Nat) (t : Tk) (w1 : World) : Prop where
  f : w1.heap[F]? = some (.cells #[.int .i64 0, .int .i64 0] 41 (0, 0))
  s : w1.heap[F + 1]? = some (.cells #[.int .i64 t.k, .int .i64 t.a, .string (bs t.w), .int .i64 t.n] 56 (0, 0))
  n : w1.heap[w.heap.size]? = some (.cells #[.int .i64 0, .int .i64 0] 41 (0, 0))
  bl : Below w.heap.size w w1
  lr : LaidR w1 (w.heap.size + 1)
  l : F + 1 < w1.heap.size ∧ w.heap.size + 2 ≤ F
abbrev ew (wx : World) (t : Tk) : World := (wx.alloc (.cells #[.int .i64 0, .int .i64 0] 41)).alloc (.cells #[.int .i64 t.k, .int .i64 t.a, .string (bs t.w), .int .i64 t.n] 56)
theorem ew_below (wx : World) (t : Tk) : Below wx.heap.size wx (ew wx t) := ((Below.refl _ _).alloc (Nat.le_refl _) _).alloc (by simp) _
theorem EB.fr {w : World} {F : Nat} {t : Tk} {w1 w2 : World} {S : Nat → Prop} (h : EB w F t w1) (hF : Fr S w1 w2) (hS : ∀ k, S k → w.heap.size < k ∧ (k < F ∨ F + 1 < k)) : EB w F t w2 := by
  obtain ⟨l1, l2⟩ := h.l
  have hz := hF.size
  have hb := h.bl.size
  exact ⟨(hF.block _ (by omega) (fun e => by have := hS _ e; omega)).trans h.f, (hF.block _ (by omega) (fun e => by have := hS _ e; omega)).trans h.s, (hF.block _ (by omega) (fun e => by have := hS _ e; omega)).trans h.n,
    h.bl.trans (hF.below hb fun k hk => by have := hS k hk; omega), h.lr.fr hF (fun k hk => by have := hS k hk; omega), by omega, l2⟩
theorem EI.box {w : World} {b : Nat} {ts : List Tk} {bb : Bool} {us : List Tk} {ms : List IM} {tm : List (Option TE)} {vi vt : Value} {o' c' : Nat} {wx : World} (h : EI w b ts bb us ms tm vi vt o' c' wx) (t : Tk) : EB w wx.heap.size t (ew wx t) := by
  have hz := h.hz
  refine ⟨box1 _ _ _, box2 _ _ _, ((ew_below wx t).block _ (by omega)).trans h.fl, h.bl.trans ((ew_below wx t).mono (by omega)), h.lr.below (ew_below wx t), by simp, by omega⟩
theorem EI.mu {w : World} {b : Nat} {ts : List Tk} {bb : Bool} {us : List Tk} {ms : List IM} {tm : List (Option TE)} {vi vt : Value} {o' c' : Nat} {wx : World} (h : EI w b ts bb us ms tm vi vt o' c' wx) : ∀ k, Mu (w.heap.size + 1) vi vt k → w.heap.size < k ∧ (k < wx.heap.size ∨ wx.heap.size + 1 < k) := by
  have hz := h.hz
  rintro k (h1 | h1 | h1)
  · omega
  · have := row_base h.rs.own h1; omega
  · have := row_base h.rs.owt h1; omega
theorem EB.cells {w : World} {F : Nat} {t : Tk} {w1 : World} (h : EB w F t w1) :
    (w1.cell? ⟨F, 0, none⟩ = some (.int .i64 0) ∧ w1.cell? ⟨F, 1, none⟩ = some (.int .i64 0) ∧ w1.frozen? ⟨F, 0, none⟩ = false ∧ w1.frozen? ⟨F, 1, none⟩ = false) ∧
    (w1.cell? ⟨F + 1, 0, none⟩ = some (.int .i64 t.k) ∧ w1.cell? ⟨F + 1, 1, none⟩ = some (.int .i64 t.a) ∧ w1.cell? ⟨F + 1, 2, none⟩ = some (.string (bs t.w)) ∧ w1.cell? ⟨F + 1, 3, none⟩ = some (.int .i64 t.n)) ∧
    (w1.cell? ⟨w.heap.size, 0, none⟩ = some (.int .i64 0) ∧ w1.cell? ⟨w.heap.size, 1, none⟩ = some (.int .i64 0) ∧ w1.frozen? ⟨w.heap.size, 0, none⟩ = false ∧ w1.frozen? ⟨w.heap.size, 1, none⟩ = false) := by
  refine ⟨⟨?_, ?_, ?_, ?_⟩, ⟨?_, ?_, ?_, ?_⟩, ?_, ?_, ?_, ?_⟩
  · rw [cell_of_row _ _ _ _ _ _ h.f]; rfl
  · rw [cell_of_row _ _ _ _ _ _ h.f]; rfl
  · exact frozen_of_row _ _ _ _ _ h.f
  · exact frozen_of_row _ _ _ _ _ h.f
  · rw [cell_of_row _ _ _ _ _ _ h.s]; rfl
  · rw [cell_of_row _ _ _ _ _ _ h.s]; rfl
  · rw [cell_of_row _ _ _ _ _ _ h.s]; rfl
  · rw [cell_of_row _ _ _ _ _ _ h.s]; rfl
  · rw [cell_of_row _ _ _ _ _ _ h.n]; rfl
  · rw [cell_of_row _ _ _ _ _ _ h.n]; rfl
  · exact frozen_of_row _ _ _ _ _ h.n
  · exact frozen_of_row _ _ _ _ _ h.n
/-- A round's end: the fault's variable has been written, and holds none. -/
theorem EI.again {w : World} {b F : Nat} {t : Tk} {ts : List Tk} {bb : Bool} {us : List Tk} {ms : List IM} {tm : List (Option TE)} {vi vt : Value} {o' c' : Nat} {w2 : World} (h : EB w F t w2) (hr : RS w2 (w.heap.size + 1) b o' c' (opens (tm.map titem) : Nat) us ms tm vi vt) (run : exprR ts = mrun us bb (ms.map (·.it)) (tm.map titem)) (en : Ends us) (lw : ∀ t ∈ us, t.w.length ≤ 1000) (v0 v1 : Value) :
    EI w b ts bb us ms tm vi vt o' c' ((w2.setCell ⟨F, 0, none⟩ v0).setCell ⟨F, 1, none⟩ v1) := by
  obtain ⟨l1, l2⟩ := h.l
  have hb := h.bl.size
  have F2 : Fr (fun j => j = F) w2 ((w2.setCell ⟨F, 0, none⟩ v0).setCell ⟨F, 1, none⟩ v1) := ((Fr.refl (fun j => j = F) w2).set (.inl rfl) 0 v0).set (.inl rfl) 1 v1
  exact ⟨(hr.setF h.f 0 v0).setF (heap_setCell_same _ _ _ _ _ _ h.f) 1 v1, run, h.bl.trans (F2.below hb fun k hk => by omega), (F2.block _ (by omega) (by omega)).trans h.n, en, lw, h.lr.fr F2 (fun k hk => by omega), by simp; omega⟩
theorem EI.plain {w : World} {b F : Nat} {t : Tk} {ts : List Tk} {bb : Bool} {us : List Tk} {ms : List IM} {tm : List (Option TE)} {vi vt : Value} {o' c' : Nat} {w2 : World} (h : EB w F t w2) (hr : RS w2 (w.heap.size + 1) b o' c' (opens (tm.map titem) : Nat) us ms tm vi vt) (run : exprR ts = mrun us bb (ms.map (·.it)) (tm.map titem)) (en : Ends us) (lw : ∀ t ∈ us, t.w.length ≤ 1000) :
    EI w b ts bb us ms tm vi vt o' c' w2 := ⟨hr, run, h.bl, h.n, en, lw, h.lr, by have := h.l; omega⟩
/-- A fault is handed back. -/
theorem ex_err {w w2 : World} {ts : List Tk} {a x : Int} (h : exprR ts = .err a x) (hb : Below w.heap.size w w2) : ExRes w (exprR ts) (.returned (.tuple #[.slice none 0 0, .agg #[.int .i64 a, .int .i64 x]])) w2 := by rw [h]; exact ⟨rfl, hb⟩
theorem opens_le (tm : List (Option TE)) : opens (tm.map titem) ≤ tm.length := by
  induction tm with
  | nil => simp [opens]
  | cons x tm ih =>
    cases x with
    | none => show opens (tm.map titem) + 1 ≤ _; simp; omega
    | some x => show opens (tm.map titem) ≤ _; simp; omega
theorem settle_opens : ∀ (s : List (Option It)) (l : List It), 0 < opens s → opens (settleL l s).2 = opens s - 1
  | [], l, h => by simp [opens] at h
  | none :: s, l, h => by show opens s = opens s + 1 - 1; omega
  | some x :: s, l, h => settle_opens s (l ++ [x]) h
theorem RS.setK {w : World} {R b o c : Nat} {k : Int} {ts : List Tk} {ms : List IM} {tm : List (Option TE)} {vi vt : Value} (h : RS w R b o c k ts ms tm vi vt) (k' : Int) : RS (w.setCell ⟨R, 3, none⟩ (.int .i64 k')) R b o c k' ts ms tm vi vt := by
  have F : Fr (fun j => j = R) w (w.setCell ⟨R, 3, none⟩ (.int .i64 k')) := (Fr.refl (fun j => j = R) w).set (.inl rfl) _ _
  exact h.next (us := []) (F.weak fun i _ hi => .inl hi) (NR.refl _ _) (NR.refl _ _) (by rw [heap_setCell_same _ _ _ _ _ _ h.blk]; rfl) h.cap rfl (by simp) (rowR h.own F) (rowR h.owt F) (fun m hm => .inl hm) (fun e he => .inl he) h.bnd
/-- What is handed back of an expression that is read. -/
theorem ex_ok {w w2 : World} {ts : List Tk} {R b o c : Nat} {k : Int} {us : List Tk} {ms : List IM} {tm : List (Option TE)} {A : Option Addr} {ca : Nat} {vt : Value} (h : exprR ts = .ok (ms.map (·.it))) (hb : Below w.heap.size w w2) (hr : RS w2 R b o c k us ms tm (.slice A ms.length ca) vt) (hc : ms.length ≤ ca) : ExRes w (exprR ts) (.returned (.tuple #[.slice A ms.length ca, .agg #[.int .i64 0, .int .i64 0]])) w2 := by
  rw [h]
  refine ⟨A, ca, by rw [List.length_map], by rw [List.length_map]; exact hc, ?_, hb⟩
  exact items_read hr.own (fun g _ _ hg => hg) fun m hm => (hr.num m hm).mono fun k hk => ⟨hk.1, rfl⟩
theorem bel_drew {n : Nat} {w w' : World} (h : Below n w w') : Below n w w'.drew := ⟨h.os, h.tape, h.output, h.size, h.block⟩
theorem mk_mem {r : List Tk} {P : Tk → Prop} (h : ∀ t ∈ r, P t) : ∀ t ∈ (mk r).2, P t := by
  cases r with
  | nil => intro t ht; simp [mk] at ht
  | cons t r =>
    unfold mk
    simp only
    split
    · exact fun x hx => h x (by simp [hx])
    · exact h
theorem past_mem {r : List Tk} {P : Tk → Prop} (h : ∀ t ∈ r, P t) : ∀ t ∈ pastNums r, P t := fun t ht => h t ((List.dropWhile_suffix _).subset ht)
set_option maxRecDepth 100000 in
set_option maxHeartbeats 6400000 in
theorem expr_any (w : World) (b o c : Nat) (ts : List Tk) (hT : ∀ i, i < ts.length → Cells4 w b (o + i * 4) (nth ts i)) (htb : ∃ cs fr, w.heap[b]? = some (.cells cs 56 fr)) (hb : b < w.heap.size) (hc : ts.length ≤ c) (hE : Ends ts) (hw : ∀ t ∈ ts, t.w.length ≤ 1000) (hl : ts.length ≤ 1000) (hL : LaidP w) :
    Calls Tryz.prog 56 #[.slice (some ⟨b, o, none⟩) ts.length c] w (ExRes w (exprR ts)) := by
  obtain ⟨W0, hW0⟩ : ∃ W, W = (w.alloc (.cells #[.int .i64 0, .int .i64 0] 41)).alloc (.cells #[.slice (some ⟨b, o, none⟩) ts.length c, .slice none 0 0, .slice none 0 0, .int .i64 0] 121) := ⟨_, rfl⟩
  have hB0 : Below w.heap.size w W0 := by rw [hW0]; exact ((Below.refl _ _).alloc (Nat.le_refl _) _).alloc (by simp) _
  have hI0 := Lib.hid (show EI w b ts false ts [] [] (.slice none 0 0) (.slice none 0 0) o c W0 by
    obtain ⟨tcs, tfr, tb⟩ := htb
    have hkb := hB0.block b hb
    refine ⟨⟨?_, hc, ⟨Nat.lt_of_lt_of_le hb hB0.size, ?_⟩, fun i hi => cells4_keep (hT i hi) hkb, World.ownsRow_nil _ _ _ _, World.ownsRow_nil _ _ _ _, fun m hm => by simp at hm, fun e he => by simp at he, by simp; omega, tcs, tfr, hkb.trans tb⟩, rfl, hB0, ?_, hE, hw, ⟨w, hL, by omega, hB0⟩, by rw [hW0, size2]; omega⟩
    · rw [hW0, box2]; rfl
    · rintro (h | h | h)
      · omega
      · simp [Value.ownBlock] at h
      · simp [Value.ownBlock] at h
    · rw [hW0, box1])
  clear hT htb hb hc hE hw hl hL hB0
  go_enter Tryz.func56, Tryz.ntmps56
  go_wp2
  rw [← hW0]
  clear hW0
  go_loopg [5] ts.length (fun g s5 wx => ∃ bb us ms tm vi vt o' c', us.length = g ∧ s5 = .bool bb ∧ Hid (EI w b ts bb us ms tm vi vt o' c' wx))
  case atStart => exact ⟨false, ts, [], [], _, _, o, c, rfl, rfl, hI0⟩
  case round =>
    obtain ⟨bb, us, ms, tm, vi, vt, o', c', hg, rfl, HI⟩ := hrel
    cases us with
    | nil => exact HI.out.en.elim
    | cons t r =>
      have hrs := HI.out.rs
      obtain ⟨d0, d1, d2, d3, df⟩ := hrs.cells
      obtain ⟨u0, u1, u2, u3⟩ := hrs.head
      have ub := hrs.sb.1
      have l2 := hrs.lt
      have hz := HI.out.hz
      have hcu := hrs.cap
      have hbn := hrs.bnd
      simp only [List.length_cons] at hcu hbn d0
      obtain rfl : gk = r.length + 1 := by simpa using hg.symm
      have hrun := HI.out.run
      rw [mrun_cons] at hrun
      have hwt := HI.out.lw t (by simp)
      have hwr : ∀ x ∈ r, x.w.length ≤ 1000 := fun x hx => HI.out.lw x (by simp [hx])
      have HR0 := Lib.hid (hrs.keep (ew_below wr t))
      have HB0 := Lib.hid (HI.out.box t)
      have hvc := fun W hP => pverb_any (bs t.w) W hP
      rw [bs_list] at hvc
      have HW := Lib.hid hwr
      clear hrs df hg hwr
      by_cases hv : vb t.w = true
      · rw [hv] at hvc
        rw [if_pos hv] at hrun
        have her : Ends r := HI.out.en.next fun e => by rw [e.2, vb_nil] at hv; cases hv
        cases r with
        | nil => exact her.elim
        | cons u r =>
          have HRUN := Lib.hid hrun
          have HER := Lib.hid her
          clear hrun her
          have HV := Lib.hid hv
          clear hv
          by_cases hx : (phR t.w bb (mk (u :: r)).1).2 = 0
          · have HX := Lib.hid hx
            replace HRUN := Lib.hid (show exprR ts = .err t.a 43 by rw [HRUN.out, if_pos hx])
            clear hx
            go_wp2_with (first
              | (go_at_call 58; refine (hvc _ HB0.out.lr.laid.2).mono ?_; rintro e w1 ⟨rfl, g1⟩; have hs1 := HR0.out.keep g1.below; have hb1 := HB0.out.fr (below_fr g1.below (fun _ => False)) (fun _ h => h.elim); obtain ⟨⟨f10, f11, ff0, ff1⟩, ⟨s10, s11, s12, s13⟩, ⟨n10, n11, fn0, fn1⟩⟩ := hb1.cells; obtain ⟨e0, e1, e2, e3, ef⟩ := hs1.cells; have ef3 := ef 3; have lb := hb1.l; have l4 := hs1.lt; have H1 := Lib.hid (And.intro hs1 hb1); clear ef g1 hs1 hb1)
              | (go_at_call 74; refine (phrase_any _ (w.heap.size + 1) b o' c' _ t u r ms tm vi vt bb H1.out.1 H1.out.2.lr HER.out.mk.pos).mono ?_; rintro e w2 hph; rcases hph with ⟨_, rfl, g2⟩ | ⟨hno, _⟩; rotate_left; exact (hno HX.out).elim; have hb2 := H1.out.2.fr g2 HI.out.mu; obtain ⟨⟨f20, f21, gf0, gf1⟩, ⟨s20, s21, s22, s23⟩, ⟨n20, n21, gn0, gn1⟩⟩ := hb2.cells; have lb2 := hb2.l; have H2 := Lib.hid hb2; clear hb2))
            go_wp2
            go_region
            go_wp2
            exact bodyPost_ret (v := .tuple #[.slice none 0 0, .agg #[.int .i64 t.a, .int .i64 43]]) (by simp [results, Tryz.results56, go_sem, n20, n21]) rfl (ex_err HRUN.out (bel_drew ((((H2.out.bl.setCell (p := ⟨wr.heap.size, 0, none⟩) (by show w.heap.size ≤ wr.heap.size; omega) _).setCell (p := ⟨wr.heap.size, 1, none⟩) (by show w.heap.size ≤ wr.heap.size; omega) _).setCell (p := ⟨w.heap.size, 0, none⟩) (Nat.le_refl _) _).setCell (p := ⟨w.heap.size, 1, none⟩) (Nat.le_refl _) _)))
          · replace HRUN := Lib.hid (HRUN.out.trans (if_neg hx))
            have HX := Lib.hid hx
            clear hx
            go_wp2_with (first
              | (go_at_call 58; refine (hvc _ HB0.out.lr.laid.2).mono ?_; rintro e w1 ⟨rfl, g1⟩; have hs1 := HR0.out.keep g1.below; have hb1 := HB0.out.fr (below_fr g1.below (fun _ => False)) (fun _ h => h.elim); obtain ⟨⟨f10, f11, ff0, ff1⟩, ⟨s10, s11, s12, s13⟩, ⟨n10, n11, fn0, fn1⟩⟩ := hb1.cells; obtain ⟨e0, e1, e2, e3, ef⟩ := hs1.cells; have ef3 := ef 3; have lb := hb1.l; have l4 := hs1.lt; have H1 := Lib.hid (And.intro hs1 hb1); clear ef g1 hs1 hb1)
              | (go_at_call 74; refine (phrase_any _ (w.heap.size + 1) b o' c' _ t u r ms tm vi vt bb H1.out.1 H1.out.2.lr HER.out.mk.pos).mono ?_; rintro e w2 hph; rcases hph with ⟨hno, _⟩ | ⟨_, rfl, o2, c2, E, vt2, hr2, hE2, g2⟩; exact (HX.out hno).elim; have hb2 := H1.out.2.fr g2.fr HI.out.mu; obtain ⟨⟨f20, f21, gf0, gf1⟩, ⟨s20, s21, s22, s23⟩, ⟨n20, n21, gn0, gn1⟩⟩ := hb2.cells; have lb2 := hb2.l; have H2 := Lib.hid hb2; clear hb2; have G2 := Lib.hid (And.intro hr2 hE2); clear hr2 hE2 g2))
            go_wp2
            go_roundg (mk (u :: r)).2.length
            case measure => have := mk_len (u :: r); simp only [List.length_cons] at this ⊢; omega
            case rel => exact ⟨false, _, ms, _, vi, vt2, o2, c2, rfl, rfl, EI.again H2.out G2.out.1 (by rw [HRUN.out, List.map_cons, titem, Option.map, G2.out.2]) HER.out.mk (mk_mem HW.out) _ _⟩
      · have hv : vb t.w = false := by simpa using hv
        rw [hv] at hvc
        rw [if_neg (by rw [hv]; exact Bool.false_ne_true)] at hrun
        have HV := Lib.hid hv
        clear hv
        obtain ⟨q, hq⟩ : ∃ q : Nat, q = opens (tm.map titem) := ⟨_, rfl⟩
        have hqs : q ≤ tm.length := by rw [hq]; exact opens_le tm
        rw [← hq] at d3 hrun HR0
        have HQ := Lib.hid hq
        clear hq
        cases bb with
        | false =>
          rw [if_pos rfl] at hrun
          have HRUN := Lib.hid hrun
          clear hrun
          by_cases hk2 : t.k = 2
          · have her : Ends r := HI.out.en.next fun e => by omega
            replace HRUN := Lib.hid (HRUN.out.trans (if_pos hk2))
            have HC := Lib.hid ((And.intro hk2 her))
            clear hk2 her
            go_wp2_with (first
              | (go_at_call 58; refine (hvc _ HB0.out.lr.laid.2).mono ?_; rintro e w1 ⟨rfl, g1⟩; have hs1 := HR0.out.keep g1.below; have hb1 := HB0.out.fr (below_fr g1.below (fun _ => False)) (fun _ h => h.elim); obtain ⟨⟨f10, f11, ff0, ff1⟩, ⟨s10, s11, s12, s13⟩, ⟨n10, n11, fn0, fn1⟩⟩ := hb1.cells; obtain ⟨e0, e1, e2, e3, ef⟩ := hs1.cells; have ef3 := ef 3; have lb := hb1.l; have l4 := hs1.lt; have H1 := Lib.hid (And.intro hs1 hb1); clear ef g1 hs1 hb1)
              | (go_at_call 75; refine (operand_num _ (w.heap.size + 1) b o' c' _ t r ms tm vi vt H1.out.1 HC.out.1 HC.out.2.past.pos).mono ?_; rintro e w2 ⟨rfl, o2, c2, m, vi2, hr2, hm2, g2⟩; have hb2 := H1.out.2.fr g2.fr HI.out.mu; obtain ⟨⟨f20, f21, gf0, gf1⟩, ⟨s20, s21, s22, s23⟩, ⟨n20, n21, gn0, gn1⟩⟩ := hb2.cells; have lb2 := hb2.l; have H2 := Lib.hid hb2; clear hb2; have G2 := Lib.hid (And.intro hr2 hm2); clear hr2 hm2 g2))
            go_wp2
            go_roundg (pastNums r).length
            case measure => have := past_len r; omega
            case rel => exact ⟨true, _, ms ++ [m], tm, vi2, vt, o2, c2, rfl, rfl, EI.again H2.out (by have h := G2.out.1; rw [HQ.out] at h; exact h) (by rw [HRUN.out, List.map_append, List.map_cons, List.map_nil, G2.out.2]) HC.out.2.past (past_mem HW.out) _ _⟩
          · by_cases hnm : nameB t.w = true
            · have her : Ends r := HI.out.en.next fun e => by rw [e.2, name_nil] at hnm; cases hnm
              replace HRUN := Lib.hid (show exprR ts = mrun r true (ms.map (·.it) ++ [⟨2, t.a, 0, t.w, []⟩]) (tm.map titem) by rw [HRUN.out, if_neg hk2, if_pos hnm])
              have HC := Lib.hid ((And.intro hk2 (And.intro hnm her)))
              clear hk2 hnm her
              go_wp2_with (first
                | (go_at_call 58; refine (hvc _ HB0.out.lr.laid.2).mono ?_; rintro e w1 ⟨rfl, g1⟩; have hs1 := HR0.out.keep g1.below; have hb1 := HB0.out.fr (below_fr g1.below (fun _ => False)) (fun _ h => h.elim); obtain ⟨⟨f10, f11, ff0, ff1⟩, ⟨s10, s11, s12, s13⟩, ⟨n10, n11, fn0, fn1⟩⟩ := hb1.cells; obtain ⟨e0, e1, e2, e3, ef⟩ := hs1.cells; have ef3 := ef 3; have lb := hb1.l; have l4 := hs1.lt; have H1 := Lib.hid (And.intro hs1 hb1); clear ef g1 hs1 hb1)
                | (go_at_call 75; refine (operand_name _ (w.heap.size + 1) b o' c' _ t r ms tm vi vt H1.out.1 H1.out.2.lr HC.out.1 hwt HC.out.2.2.pos HC.out.2.1).mono ?_; rintro e w2 ⟨rfl, o2, c2, m, vi2, hr2, hm2, g2⟩; have hb2 := H1.out.2.fr g2.fr HI.out.mu; obtain ⟨⟨f20, f21, gf0, gf1⟩, ⟨s20, s21, s22, s23⟩, ⟨n20, n21, gn0, gn1⟩⟩ := hb2.cells; have lb2 := hb2.l; have H2 := Lib.hid hb2; clear hb2; have G2 := Lib.hid (And.intro hr2 hm2); clear hr2 hm2 g2))
              go_wp2
              go_roundg (r).length
              case measure => simp
              case rel => exact ⟨true, _, ms ++ [m], tm, vi2, vt, o2, c2, rfl, rfl, EI.again H2.out (by have h := G2.out.1; rw [HQ.out] at h; exact h) (by rw [HRUN.out, List.map_append, List.map_cons, List.map_nil, G2.out.2]) HC.out.2.2 HW.out _ _⟩
            · have hnf : nameB t.w = false := by simpa using hnm
              by_cases hop : t.w = [40]
              · have her : Ends r := HI.out.en.next fun e => by rw [e.2] at hop; cases hop
                by_cases hq32 : q = 32
                · have hq32i : (q : Int) = 32 := by omega
                  replace HRUN := Lib.hid (show exprR ts = .err t.a 44 by rw [HRUN.out, if_neg hk2, if_neg hnm, if_pos hop, if_pos hq32])
                  have HC := Lib.hid ((And.intro hk2 (And.intro hnf (And.intro hop hq32i))))
                  clear hk2 hnm hnf hop hq32 hq32i her
                  go_wp2_with (first
                    | (go_at_call 58; refine (hvc _ HB0.out.lr.laid.2).mono ?_; rintro e w1 ⟨rfl, g1⟩; have hs1 := HR0.out.keep g1.below; have hb1 := HB0.out.fr (below_fr g1.below (fun _ => False)) (fun _ h => h.elim); obtain ⟨⟨f10, f11, ff0, ff1⟩, ⟨s10, s11, s12, s13⟩, ⟨n10, n11, fn0, fn1⟩⟩ := hb1.cells; obtain ⟨e0, e1, e2, e3, ef⟩ := hs1.cells; have ef3 := ef 3; have lb := hb1.l; have l4 := hs1.lt; have H1 := Lib.hid (And.intro hs1 hb1); clear ef g1 hs1 hb1)
                    | (go_at_call 75; refine (operand_nest _ (w.heap.size + 1) b o' c' _ t r ms tm vi vt H1.out.1 H1.out.2.lr HC.out.1 hwt HC.out.2.1 HC.out.2.2.1 HC.out.2.2.2).mono ?_; rintro e w2 ⟨rfl, g2⟩; have hb2 := H1.out.2.fr g2 HI.out.mu; obtain ⟨⟨f20, f21, gf0, gf1⟩, ⟨s20, s21, s22, s23⟩, ⟨n20, n21, gn0, gn1⟩⟩ := hb2.cells; have lb2 := hb2.l; have H2 := Lib.hid hb2; clear hb2))
                  go_wp2
                  go_region
                  go_wp2
                  exact bodyPost_ret (v := .tuple #[.slice none 0 0, .agg #[.int .i64 t.a, .int .i64 44]]) (by simp [results, Tryz.results56, go_sem, n20, n21]) rfl (ex_err HRUN.out (bel_drew ((((H2.out.bl.setCell (p := ⟨wr.heap.size, 0, none⟩) (by show w.heap.size ≤ wr.heap.size; omega) _).setCell (p := ⟨wr.heap.size, 1, none⟩) (by show w.heap.size ≤ wr.heap.size; omega) _).setCell (p := ⟨w.heap.size, 0, none⟩) (Nat.le_refl _) _).setCell (p := ⟨w.heap.size, 1, none⟩) (Nat.le_refl _) _)))
                · skip
                  replace HRUN := Lib.hid (show exprR ts = mrun r false (ms.map (·.it)) (none :: tm.map titem) by rw [HRUN.out, if_neg hk2, if_neg hnm, if_pos hop, if_neg (by omega)])
                  have hq0 : (0 : Int) ≤ (q : Int) ∧ (q : Int) ≤ 1000000 := by have := hqs; omega
                  have hq32i : ¬ (q : Int) = 32 := by omega
                  have HC := Lib.hid ((And.intro hk2 (And.intro hnf (And.intro hop (And.intro hq32i (And.intro hq0 her))))))
                  clear hk2 hnm hnf hop hq32 hq32i hq0 her
                  go_wp2_with (first
                    | (go_at_call 58; refine (hvc _ HB0.out.lr.laid.2).mono ?_; rintro e w1 ⟨rfl, g1⟩; have hs1 := HR0.out.keep g1.below; have hb1 := HB0.out.fr (below_fr g1.below (fun _ => False)) (fun _ h => h.elim); obtain ⟨⟨f10, f11, ff0, ff1⟩, ⟨s10, s11, s12, s13⟩, ⟨n10, n11, fn0, fn1⟩⟩ := hb1.cells; obtain ⟨e0, e1, e2, e3, ef⟩ := hs1.cells; have ef3 := ef 3; have lb := hb1.l; have l4 := hs1.lt; have H1 := Lib.hid (And.intro hs1 hb1); clear ef g1 hs1 hb1)
                    | (go_at_call 75; refine (operand_open _ (w.heap.size + 1) b o' c' _ t r ms tm vi vt H1.out.1 H1.out.2.lr HC.out.1 hwt HC.out.2.2.2.2.2.pos HC.out.2.1 HC.out.2.2.1 HC.out.2.2.2.1 HC.out.2.2.2.2.1).mono ?_; rintro e w2 ⟨rfl, o2, c2, vt2, hr2, g2⟩; have hb2 := H1.out.2.fr g2.fr HI.out.mu; obtain ⟨⟨f20, f21, gf0, gf1⟩, ⟨s20, s21, s22, s23⟩, ⟨n20, n21, gn0, gn1⟩⟩ := hb2.cells; have lb2 := hb2.l; have H2 := Lib.hid hb2; clear hb2; have G2 := Lib.hid hr2; clear hr2 g2))
                  go_wp2
                  go_roundg r.length
                  case measure => simp
                  case rel => exact ⟨false, r, ms, none :: tm, vi, vt2, o2, c2, rfl, rfl, EI.again H2.out (by have h := G2.out; rw [HQ.out] at h; simpa [opens, titem] using h) (by rw [HRUN.out]; rfl) HC.out.2.2.2.2.2 HW.out _ _⟩
              · by_cases hk1 : t.k = 1
                · skip
                  replace HRUN := Lib.hid (show exprR ts = .err t.a 41 by rw [HRUN.out, if_neg hk2, if_neg hnm, if_neg hop, if_pos hk1])
                  have HC := Lib.hid ((And.intro hk2 (And.intro hnf (And.intro hop hk1))))
                  clear hk2 hnm hnf hop hk1
                  go_wp2_with (first
                    | (go_at_call 58; refine (hvc _ HB0.out.lr.laid.2).mono ?_; rintro e w1 ⟨rfl, g1⟩; have hs1 := HR0.out.keep g1.below; have hb1 := HB0.out.fr (below_fr g1.below (fun _ => False)) (fun _ h => h.elim); obtain ⟨⟨f10, f11, ff0, ff1⟩, ⟨s10, s11, s12, s13⟩, ⟨n10, n11, fn0, fn1⟩⟩ := hb1.cells; obtain ⟨e0, e1, e2, e3, ef⟩ := hs1.cells; have ef3 := ef 3; have lb := hb1.l; have l4 := hs1.lt; have H1 := Lib.hid (And.intro hs1 hb1); clear ef g1 hs1 hb1)
                    | (go_at_call 75; refine (operand_word _ (w.heap.size + 1) b o' c' _ t r ms tm vi vt H1.out.1 H1.out.2.lr HC.out.1 hwt HC.out.2.1 HC.out.2.2.1 HC.out.2.2.2).mono ?_; rintro e w2 ⟨rfl, g2⟩; have hb2 := H1.out.2.fr g2 HI.out.mu; obtain ⟨⟨f20, f21, gf0, gf1⟩, ⟨s20, s21, s22, s23⟩, ⟨n20, n21, gn0, gn1⟩⟩ := hb2.cells; have lb2 := hb2.l; have H2 := Lib.hid hb2; clear hb2))
                  go_wp2
                  go_region
                  go_wp2
                  exact bodyPost_ret (v := .tuple #[.slice none 0 0, .agg #[.int .i64 t.a, .int .i64 41]]) (by simp [results, Tryz.results56, go_sem, n20, n21]) rfl (ex_err HRUN.out (bel_drew ((((H2.out.bl.setCell (p := ⟨wr.heap.size, 0, none⟩) (by show w.heap.size ≤ wr.heap.size; omega) _).setCell (p := ⟨wr.heap.size, 1, none⟩) (by show w.heap.size ≤ wr.heap.size; omega) _).setCell (p := ⟨w.heap.size, 0, none⟩) (Nat.le_refl _) _).setCell (p := ⟨w.heap.size, 1, none⟩) (Nat.le_refl _) _)))
                · skip
                  replace HRUN := Lib.hid (show exprR ts = .err t.a 42 by rw [HRUN.out, if_neg hk2, if_neg hnm, if_neg hop, if_neg hk1])
                  have HC := Lib.hid ((And.intro hk2 (And.intro hnf (And.intro hop hk1))))
                  clear hk2 hnm hnf hop hk1
                  go_wp2_with (first
                    | (go_at_call 58; refine (hvc _ HB0.out.lr.laid.2).mono ?_; rintro e w1 ⟨rfl, g1⟩; have hs1 := HR0.out.keep g1.below; have hb1 := HB0.out.fr (below_fr g1.below (fun _ => False)) (fun _ h => h.elim); obtain ⟨⟨f10, f11, ff0, ff1⟩, ⟨s10, s11, s12, s13⟩, ⟨n10, n11, fn0, fn1⟩⟩ := hb1.cells; obtain ⟨e0, e1, e2, e3, ef⟩ := hs1.cells; have ef3 := ef 3; have lb := hb1.l; have l4 := hs1.lt; have H1 := Lib.hid (And.intro hs1 hb1); clear ef g1 hs1 hb1)
                    | (go_at_call 75; refine (operand_want _ (w.heap.size + 1) b o' c' _ t r ms tm vi vt H1.out.1 H1.out.2.lr HC.out.1 hwt HC.out.2.1 HC.out.2.2.1 HC.out.2.2.2).mono ?_; rintro e w2 ⟨rfl, g2⟩; have hb2 := H1.out.2.fr g2 HI.out.mu; obtain ⟨⟨f20, f21, gf0, gf1⟩, ⟨s20, s21, s22, s23⟩, ⟨n20, n21, gn0, gn1⟩⟩ := hb2.cells; have lb2 := hb2.l; have H2 := Lib.hid hb2; clear hb2))
                  go_wp2
                  go_region
                  go_wp2
                  exact bodyPost_ret (v := .tuple #[.slice none 0 0, .agg #[.int .i64 t.a, .int .i64 42]]) (by simp [results, Tryz.results56, go_sem, n20, n21]) rfl (ex_err HRUN.out (bel_drew ((((H2.out.bl.setCell (p := ⟨wr.heap.size, 0, none⟩) (by show w.heap.size ≤ wr.heap.size; omega) _).setCell (p := ⟨wr.heap.size, 1, none⟩) (by show w.heap.size ≤ wr.heap.size; omega) _).setCell (p := ⟨w.heap.size, 0, none⟩) (Nat.le_refl _) _).setCell (p := ⟨w.heap.size, 1, none⟩) (Nat.le_refl _) _)))
        | true =>
          rw [if_neg (by decide)] at hrun
          have HRUN := Lib.hid hrun
          clear hrun
          by_cases hk4 : t.k = 4
          · by_cases hq0 : 0 < q
            · skip
              replace HRUN := Lib.hid (show exprR ts = .err t.a 42 by rw [HRUN.out, if_pos hk4, if_pos hq0])
              have X1 := Lib.hid (And.intro (show (t.k == 4) = true by simpa using hk4) (show (0 : Int) < (q : Int) by omega))
              clear hk4 hq0
              go_wp2_with (first
                | (go_at_call 58; refine (hvc _ HB0.out.lr.laid.2).mono ?_; rintro e w1 ⟨rfl, g1⟩; have hs1 := HR0.out.keep g1.below; have hb1 := HB0.out.fr (below_fr g1.below (fun _ => False)) (fun _ h => h.elim); obtain ⟨⟨f10, f11, ff0, ff1⟩, ⟨s10, s11, s12, s13⟩, ⟨n10, n11, fn0, fn1⟩⟩ := hb1.cells; obtain ⟨e0, e1, e2, e3, ef⟩ := hs1.cells; have ef3 := ef 3; have lb := hb1.l; have l4 := hs1.lt; have H1 := Lib.hid (And.intro hs1 hb1); clear ef g1 hs1 hb1; have x1 := X1.out.1; have x2 := X1.out.2)
                | (go_at_call 22; refine (fault_any t 42 _).mono ?_; rintro e w2 ⟨rfl, g2⟩; have hb2 := H1.out.2.fr (below_fr g2.below (fun _ => False)) (fun _ h => h.elim); obtain ⟨⟨f20, f21, gf0, gf1⟩, ⟨s20, s21, s22, s23⟩, ⟨n20, n21, gn0, gn1⟩⟩ := hb2.cells; have lb2 := hb2.l; have H2 := Lib.hid hb2; clear hb2)
                | (go_at_call 22; refine (fault_any ⟨4, t.a, t.w, t.n⟩ 42 _).mono ?_; rintro e w2 ⟨rfl, g2⟩; have hb2 := H1.out.2.fr (below_fr g2.below (fun _ => False)) (fun _ h => h.elim); obtain ⟨⟨f20, f21, gf0, gf1⟩, ⟨s20, s21, s22, s23⟩, ⟨n20, n21, gn0, gn1⟩⟩ := hb2.cells; have lb2 := hb2.l; have H2 := Lib.hid hb2; clear hb2))
              go_wp2
              go_region
              go_wp2
              exact bodyPost_ret (v := .tuple #[.slice none 0 0, .agg #[.int .i64 t.a, .int .i64 42]]) (by simp [results, Tryz.results56, go_sem, n20, n21]) rfl (ex_err HRUN.out (bel_drew ((((H2.out.bl.setCell (p := ⟨wr.heap.size, 0, none⟩) (by show w.heap.size ≤ wr.heap.size; omega) _).setCell (p := ⟨wr.heap.size, 1, none⟩) (by show w.heap.size ≤ wr.heap.size; omega) _).setCell (p := ⟨w.heap.size, 0, none⟩) (Nat.le_refl _) _).setCell (p := ⟨w.heap.size, 1, none⟩) (Nat.le_refl _) _)))
            · skip
              replace HRUN := Lib.hid (show exprR ts = .ok (settleL (ms.map (·.it)) (tm.map titem)).1 by rw [HRUN.out, if_pos hk4, if_neg hq0])
              have X1 := Lib.hid (And.intro (show (t.k == 4) = true by simpa using hk4) (show ¬ (0 : Int) < (q : Int) by omega))
              clear hk4 hq0
              go_wp2_with (first
                | (go_at_call 58; refine (hvc _ HB0.out.lr.laid.2).mono ?_; rintro e w1 ⟨rfl, g1⟩; have hs1 := HR0.out.keep g1.below; have hb1 := HB0.out.fr (below_fr g1.below (fun _ => False)) (fun _ h => h.elim); obtain ⟨⟨f10, f11, ff0, ff1⟩, ⟨s10, s11, s12, s13⟩, ⟨n10, n11, fn0, fn1⟩⟩ := hb1.cells; obtain ⟨e0, e1, e2, e3, ef⟩ := hs1.cells; have ef3 := ef 3; have lb := hb1.l; have l4 := hs1.lt; have H1 := Lib.hid (And.intro hs1 hb1); clear ef g1 hs1 hb1; have x1 := X1.out.1; have x2 := X1.out.2)
                | (go_at_call 76; refine (settle_any _ (w.heap.size + 1) b o' c' _ (t :: r) ms tm vi vt H1.out.1).mono ?_; rintro e w2 ⟨rfl, ms2, tm2, vi2, vt2, hs2, hse, n1, n2, f2⟩; have hb2 := H1.out.2.fr f2 HI.out.mu; obtain ⟨⟨f20, f21, gf0, gf1⟩, ⟨s20, s21, s22, s23⟩, ⟨n20, n21, gn0, gn1⟩⟩ := hb2.cells; have lb2 := hb2.l; have H2 := Lib.hid hb2; clear hb2; obtain ⟨A2, ca2, rfl, hca2⟩ := row_shape hs2.own; obtain ⟨k20, k21, k22, k23, kf2⟩ := hs2.cells; have lr2 := hs2.lt; have G2 := Lib.hid (And.intro hs2 (And.intro hse hca2)); clear hs2 hse kf2 n1 n2 f2 hca2))
              go_wp2
              exact bodyPost_ret (v := .tuple #[.slice A2 ms2.length ca2, .agg #[.int .i64 0, .int .i64 0]]) (by simp [results, Tryz.results56, go_sem, n20, n21]) rfl (ex_ok (by rw [HRUN.out, G2.out.2.1]) ((H2.out.bl.setCell (p := ⟨w.heap.size, 0, none⟩) (Nat.le_refl _) _).setCell (p := ⟨w.heap.size, 1, none⟩) (Nat.le_refl _) _) ((G2.out.1.setF H2.out.n 0 _).setF (heap_setCell_same _ _ _ _ _ _ H2.out.n) 1 _) G2.out.2.2)
          · have her : Ends r := HI.out.en.next fun e => hk4 e.1
            by_cases hcl : t.w = [41] ∧ 0 < q
            · skip
              replace HRUN := Lib.hid (show exprR ts = mrun r true (settleL (ms.map (·.it)) (tm.map titem)).1 (settleL (ms.map (·.it)) (tm.map titem)).2 by rw [HRUN.out, if_neg hk4, if_pos hcl])
              have X1 := Lib.hid (And.intro (show (t.k == 4) = false by simpa using hk4) (And.intro (show (0 : Int) < (q : Int) by omega) (cmpYes hcl.1)))
              have HQ0 := Lib.hid hcl.2
              have hq1 : (q : Int) ≤ 1000000 := by omega
              have HC := Lib.hid her
              clear hk4 hcl her
              go_wp2_with (first
                | (go_at_call 58; refine (hvc _ HB0.out.lr.laid.2).mono ?_; rintro e w1 ⟨rfl, g1⟩; have hs1 := HR0.out.keep g1.below; have hb1 := HB0.out.fr (below_fr g1.below (fun _ => False)) (fun _ h => h.elim); obtain ⟨⟨f10, f11, ff0, ff1⟩, ⟨s10, s11, s12, s13⟩, ⟨n10, n11, fn0, fn1⟩⟩ := hb1.cells; obtain ⟨e0, e1, e2, e3, ef⟩ := hs1.cells; have ef3 := ef 3; have lb := hb1.l; have l4 := hs1.lt; have H1 := Lib.hid (And.intro hs1 hb1); clear ef g1 hs1 hb1; have x1 := X1.out.1; have x2 := X1.out.2.1; have x3 := X1.out.2.2)
                | (go_at_call 77; refine (take_any _ (w.heap.size + 1) b o' c' _ t r ms tm vi vt H1.out.1 HC.out.pos).mono ?_; rintro e w2 ⟨rfl, hs2, f2⟩; have hb2 := H1.out.2.fr f2 (fun k hk => HI.out.mu k (.inl hk)); obtain ⟨⟨f20, f21, gf0, gf1⟩, ⟨s20, s21, s22, s23⟩, ⟨n20, n21, gn0, gn1⟩⟩ := hb2.cells; have lb2 := hb2.l; have H2 := Lib.hid hb2; clear hb2; obtain ⟨k20, k21, k22, k23, kf2⟩ := hs2.cells; have kf23 := kf2 3; have lr2 := hs2.lt; have G2 := Lib.hid hs2; clear hs2 kf2 f2)
                | (go_at_call 76; refine (settle_any _ (w.heap.size + 1) b (o' + 4) (c' - 1) _ r ms tm vi vt (G2.out.setK ((q : Int) - 1))).mono ?_; rintro e w3 ⟨rfl, ms3, tm3, vi3, vt3, hs3, hse, n1, n2, f3⟩; have hb3 := H2.out.fr (((Fr.refl (fun k => Mu (w.heap.size + 1) vi vt k) w2).set (.inl (.inl rfl)) 3 (.int .i64 ((q : Int) - 1))).trans f3) HI.out.mu; obtain ⟨⟨f30, f31, hf0, hf1⟩, ⟨s30, s31, s32, s33⟩, ⟨n30, n31, hn0, hn1⟩⟩ := hb3.cells; have lb3 := hb3.l; have H3 := Lib.hid (And.intro hb3 (And.intro hs3 hse)); clear hb3 hs3 hse n1 n2 f3))
              go_wp2
              go_roundg r.length
              case measure => simp
              case rel => exact ⟨true, r, ms3, tm3, vi3, vt3, _, _, rfl, rfl, EI.plain H3.out.1 (by have h := H3.out.2.1; have e1 := settle_opens (tm.map titem) (ms.map (·.it)) (by rw [← HQ.out]; exact HQ0.out); rw [H3.out.2.2] at e1; have e2 := HQ0.out; have e3 := HQ.out; rw [show ((q : Int) - 1) = ((opens (tm3.map titem) : Nat) : Int) by rw [e1]; omega] at h; exact h) (by rw [HRUN.out, H3.out.2.2]) HC.out HW.out⟩
            · skip
              replace HRUN := Lib.hid (show exprR ts = .err t.a 46 by rw [HRUN.out, if_neg hk4, if_neg hcl])
              have X0 := Lib.hid (show (t.k == 4) = false by simpa using hk4)
              by_cases hw41 : t.w = [41]
              · have X1 := Lib.hid (And.intro X0.out (And.intro (show ¬ (0 : Int) < (q : Int) from fun h => hcl ⟨hw41, by omega⟩) (cmpYes hw41)))
                clear hk4 hcl hw41 her
                go_wp2_with (first
                  | (go_at_call 58; refine (hvc _ HB0.out.lr.laid.2).mono ?_; rintro e w1 ⟨rfl, g1⟩; have hs1 := HR0.out.keep g1.below; have hb1 := HB0.out.fr (below_fr g1.below (fun _ => False)) (fun _ h => h.elim); obtain ⟨⟨f10, f11, ff0, ff1⟩, ⟨s10, s11, s12, s13⟩, ⟨n10, n11, fn0, fn1⟩⟩ := hb1.cells; obtain ⟨e0, e1, e2, e3, ef⟩ := hs1.cells; have ef3 := ef 3; have lb := hb1.l; have l4 := hs1.lt; have H1 := Lib.hid (And.intro hs1 hb1); clear ef g1 hs1 hb1; have x1 := X1.out.1; have x2 := X1.out.2.1; have x3 := X1.out.2.2)
                  | (go_at_call 22; refine (fault_any t 46 _).mono ?_; rintro e w2 ⟨rfl, g2⟩; have hb2 := H1.out.2.fr (below_fr g2.below (fun _ => False)) (fun _ h => h.elim); obtain ⟨⟨f20, f21, gf0, gf1⟩, ⟨s20, s21, s22, s23⟩, ⟨n20, n21, gn0, gn1⟩⟩ := hb2.cells; have lb2 := hb2.l; have H2 := Lib.hid hb2; clear hb2))
                go_wp2
                go_region
                go_wp2
                exact bodyPost_ret (v := .tuple #[.slice none 0 0, .agg #[.int .i64 t.a, .int .i64 46]]) (by simp [results, Tryz.results56, go_sem, n20, n21]) rfl (ex_err HRUN.out (bel_drew ((((H2.out.bl.setCell (p := ⟨wr.heap.size, 0, none⟩) (by show w.heap.size ≤ wr.heap.size; omega) _).setCell (p := ⟨wr.heap.size, 1, none⟩) (by show w.heap.size ≤ wr.heap.size; omega) _).setCell (p := ⟨w.heap.size, 0, none⟩) (Nat.le_refl _) _).setCell (p := ⟨w.heap.size, 1, none⟩) (Nat.le_refl _) _)))
              · have X1 := Lib.hid (And.intro X0.out (cmpNo hw41))
                clear hk4 hcl hw41 her
                go_wp2_with (first
                  | (go_at_call 58; refine (hvc _ HB0.out.lr.laid.2).mono ?_; rintro e w1 ⟨rfl, g1⟩; have hs1 := HR0.out.keep g1.below; have hb1 := HB0.out.fr (below_fr g1.below (fun _ => False)) (fun _ h => h.elim); obtain ⟨⟨f10, f11, ff0, ff1⟩, ⟨s10, s11, s12, s13⟩, ⟨n10, n11, fn0, fn1⟩⟩ := hb1.cells; obtain ⟨e0, e1, e2, e3, ef⟩ := hs1.cells; have ef3 := ef 3; have lb := hb1.l; have l4 := hs1.lt; have H1 := Lib.hid (And.intro hs1 hb1); clear ef g1 hs1 hb1; have x1 := X1.out.1; have x3 := X1.out.2)
                  | (go_at_call 22; refine (fault_any t 46 _).mono ?_; rintro e w2 ⟨rfl, g2⟩; have hb2 := H1.out.2.fr (below_fr g2.below (fun _ => False)) (fun _ h => h.elim); obtain ⟨⟨f20, f21, gf0, gf1⟩, ⟨s20, s21, s22, s23⟩, ⟨n20, n21, gn0, gn1⟩⟩ := hb2.cells; have lb2 := hb2.l; have H2 := Lib.hid hb2; clear hb2))
                go_wp2
                go_region
                go_wp2
                exact bodyPost_ret (v := .tuple #[.slice none 0 0, .agg #[.int .i64 t.a, .int .i64 46]]) (by simp [results, Tryz.results56, go_sem, n20, n21]) rfl (ex_err HRUN.out (bel_drew ((((H2.out.bl.setCell (p := ⟨wr.heap.size, 0, none⟩) (by show w.heap.size ≤ wr.heap.size; omega) _).setCell (p := ⟨wr.heap.size, 1, none⟩) (by show w.heap.size ≤ wr.heap.size; omega) _).setCell (p := ⟨w.heap.size, 0, none⟩) (Nat.le_refl _) _).setCell (p := ⟨w.heap.size, 1, none⟩) (Nat.le_refl _) _)))
end Go.Proofs.YtbapgdhcbfpdoaaGreatDoor
/- A program in memory; complete. -/
namespace Go.Proofs.YtbapgdhcbfpdoaaGreatDoor
open Go.RowKit

/-! ### sides -/
def RdS (w : World) (A : Option Addr) (l : List (List UInt8 × Int)) : Prop := 0 < l.length → ∃ b o, A = some ⟨b, o, none⟩ ∧ (b < w.heap.size ∧ ∃ cs fr, w.heap[b]? = some (.cells cs 50 fr)) ∧ ∀ i, i < l.length → w.cell? ⟨b, o + i * 2, none⟩ = some (.string (bs (l.getD i default).1)) ∧ w.cell? ⟨b, o + i * 2 + 1, none⟩ = some (.int .i64 (l.getD i default).2)
abbrev RdIt (w : World) (A : Option Addr) (l : List It) : Prop := RdI w (fun j => j < w.heap.size) A l
/-- A line, an input: and where its items, its sides lie. -/
structure LM where
  ln : Ln
  A : Option Addr
  c : Nat
structure NM where
  inp : Inp
  A : Option Addr
  c : Nat
def LM.cells (m : LM) : List Value := [.string (bs m.ln.nm), .int .i64 m.ln.pl, .slice m.A m.ln.its.length m.c]
def NM.cells (m : NM) : List Value := [.string (bs m.inp.nm), .int .i64 m.inp.pl, .slice m.A m.inp.sd.length m.c]
/-- Types of the blocks in which a program's own rows lie. -/
def PT (T : TypeId) : Prop := T = 25 ∨ T = 48 ∨ T = 33
/-- What may turn: the program's block, and its two rows. -/
def PM (P : Nat) (vi vl : Value) (k : Nat) : Prop := k = P ∨ vi.ownBlock = some k ∨ vl.ownBlock = some k
structure PS (w : World) (P : Nat) (xs : List NM) (ls : List LM) (vi vl : Value) : Prop where
  blk : w.heap[P]? = some (.cells #[vi, vl] 25 (0, 0))
  owi : w.ownsRow (P + 1) 48 3 vi xs.length (xs.flatMap NM.cells)
  owl : w.ownsRow (P + 1) 33 3 vl ls.length (ls.flatMap LM.cells)
  its : ∀ m ∈ ls, RdIt w m.A m.ln.its ∧ m.ln.its.length ≤ m.c
  sds : ∀ m ∈ xs, RdS w m.A m.inp.sd ∧ m.inp.sd.length ≤ m.c
theorem row_type {w : World} {base size n k : Nat} {e : TypeId} {v : Value} {xs : List Value} (h : w.ownsRow base e size v n xs) (hk : v.ownBlock = some k) : ∃ cur, w.heap[k]? = some (.cells cur e (0, 0)) := by
  rcases h.2 with ⟨rfl, _⟩ | ⟨g, cap, cur, rfl, _, hh, _⟩
  · simp [Value.ownBlock] at hk
  · simp [Value.ownBlock] at hk; subst hk; exact ⟨cur, hh⟩
theorem PS.lt {w : World} {P : Nat} {xs : List NM} {ls : List LM} {vi vl : Value} (h : PS w P xs ls vi vl) : P < w.heap.size := by
  rcases Nat.lt_or_ge P w.heap.size with h1 | h1
  · exact h1
  · have := h.blk; rw [Array.getElem?_eq_none h1] at this; cases this
theorem PS.types {w : World} {P : Nat} {xs : List NM} {ls : List LM} {vi vl : Value} (h : PS w P xs ls vi vl) : ∀ k, PM P vi vl k → ∃ cs T, w.heap[k]? = some (.cells cs T (0, 0)) ∧ PT T := by
  rintro k (rfl | h1 | h1)
  · exact ⟨_, _, h.blk, .inl rfl⟩
  · obtain ⟨c, hc⟩ := row_type h.owi h1; exact ⟨c, _, hc, .inr (.inl rfl)⟩
  · obtain ⟨c, hc⟩ := row_type h.owl h1; exact ⟨c, _, hc, .inr (.inr rfl)⟩
theorem PS.base {w : World} {P : Nat} {xs : List NM} {ls : List LM} {vi vl : Value} (h : PS w P xs ls vi vl) : ∀ k, PM P vi vl k → P ≤ k ∧ k < w.heap.size := by
  rintro k (rfl | h1 | h1)
  · exact ⟨Nat.le_refl _, h.lt⟩
  · have := row_base h.owi h1; omega
  · have := row_base h.owl h1; omega
/-- A block of another type is left alone. -/
theorem PS.far {w w' : World} {P : Nat} {xs : List NM} {ls : List LM} {vi vl : Value} (h : PS w P xs ls vi vl) (F : Fr (PM P vi vl) w w') {b : Nat} {cs : Array Value} {T : TypeId} {fr : Nat × Nat} (hb : w.heap[b]? = some (.cells cs T fr)) (hT : ¬ PT T) : w'.heap[b]? = w.heap[b]? := F.block b (heap_lt hb) fun hk => by
  obtain ⟨cs', T', h1, h2⟩ := h.types b hk
  rw [hb] at h1
  simp at h1
  exact hT (h1.2.1 ▸ h2)
theorem pt_no {T : TypeId} (h : T = 37 ∨ T = 2 ∨ T = 50 ∨ T = 56) : ¬ PT T := by
  unfold PT
  rcases h with rfl | rfl | rfl | rfl <;> decide
theorem RdN.grow {w w' : World} {A : Option Addr} {ns : List Int} (h : RdN w (fun j => j < w.heap.size) A ns) (hz : w.heap.size ≤ w'.heap.size) (hk : ∀ (b : Nat) (cs : Array Value) (fr : Nat × Nat), w.heap[b]? = some (Obj.cells cs 2 fr) → w'.heap[b]? = w.heap[b]?) : RdN w' (fun j => j < w'.heap.size) A ns := fun hl => by
  obtain ⟨b, o, e, ⟨h1, cs, fr, h3⟩, h2⟩ := h hl
  have e3 := hk b cs fr h3
  exact ⟨b, o, e, ⟨Nat.lt_of_lt_of_le h1 hz, cs, fr, e3.trans h3⟩, fun i hi => by rw [World.cell?_of_block (a := ⟨b, o + i, none⟩) e3]; exact h2 i hi⟩
theorem RdI.grow {w w' : World} {A : Option Addr} {l : List It} (h : RdIt w A l) (hz : w.heap.size ≤ w'.heap.size) (hk : ∀ (b : Nat) (cs : Array Value) (T : TypeId) (fr : Nat × Nat), w.heap[b]? = some (Obj.cells cs T fr) → T = 37 ∨ T = 2 → w'.heap[b]? = w.heap[b]?) : RdIt w' A l := fun hl => by
  obtain ⟨b, o, e, ⟨h1, cs, fr, h3⟩, h2⟩ := h hl
  have e3 := hk b cs _ fr h3 (.inl rfl)
  refine ⟨b, o, e, ⟨Nat.lt_of_lt_of_le h1 hz, cs, fr, e3.trans h3⟩, fun i hi => ?_⟩
  obtain ⟨i0, i1, i2, i3, A', c', i4, i5⟩ := h2 i hi
  have ec : ∀ j, w'.cell? ⟨b, j, none⟩ = w.cell? ⟨b, j, none⟩ := fun j => World.cell?_of_block (a := ⟨b, j, none⟩) e3
  exact ⟨(ec _).trans i0, (ec _).trans i1, (ec _).trans i2, (ec _).trans i3, A', c', (ec _).trans i4, i5.grow hz fun b cs fr hb => hk b cs _ fr hb (.inr rfl)⟩
theorem RdS.grow {w w' : World} {A : Option Addr} {l : List (List UInt8 × Int)} (h : RdS w A l) (hz : w.heap.size ≤ w'.heap.size) (hk : ∀ (b : Nat) (cs : Array Value) (fr : Nat × Nat), w.heap[b]? = some (Obj.cells cs 50 fr) → w'.heap[b]? = w.heap[b]?) : RdS w' A l := fun hl => by
  obtain ⟨b, o, e, ⟨h1, cs, fr, h3⟩, h2⟩ := h hl
  have e3 := hk b cs fr h3
  have ec : ∀ j, w'.cell? ⟨b, j, none⟩ = w.cell? ⟨b, j, none⟩ := fun j => World.cell?_of_block (a := ⟨b, j, none⟩) e3
  exact ⟨b, o, e, ⟨Nat.lt_of_lt_of_le h1 hz, cs, fr, e3.trans h3⟩, fun i hi => ⟨(ec _).trans (h2 i hi).1, (ec _).trans (h2 i hi).2⟩⟩
/-- From one state of the program to another one. -/
theorem PS.next {w w' : World} {P : Nat} {xs xs' : List NM} {ls ls' : List LM} {vi vl vi' vl' : Value} (h : PS w P xs ls vi vl) (F : Fr (PM P vi vl) w w') (blk : w'.heap[P]? = some (.cells #[vi', vl'] 25 (0, 0)))
    (owi : w'.ownsRow (P + 1) 48 3 vi' xs'.length (xs'.flatMap NM.cells)) (owl : w'.ownsRow (P + 1) 33 3 vl' ls'.length (ls'.flatMap LM.cells))
    (hl : ∀ m ∈ ls', m ∈ ls ∨ (RdIt w' m.A m.ln.its ∧ m.ln.its.length ≤ m.c)) (hx : ∀ m ∈ xs', m ∈ xs ∨ (RdS w' m.A m.inp.sd ∧ m.inp.sd.length ≤ m.c)) : PS w' P xs' ls' vi' vl' where
  blk := blk
  owi := owi
  owl := owl
  its := fun m hm => (hl m hm).elim (fun h1 => ⟨RdI.grow (h.its m h1).1 F.size fun _ _ _ _ hb hT => h.far F hb (pt_no (hT.elim .inl fun e => .inr (.inl e))), (h.its m h1).2⟩) id
  sds := fun m hm => (hx m hm).elim (fun h1 => ⟨RdS.grow (h.sds m h1).1 F.size fun _ _ _ hb => h.far F hb (pt_no (.inr (.inr (.inl rfl)))), (h.sds m h1).2⟩) id
theorem PS.keep {w w' : World} {P : Nat} {xs : List NM} {ls : List LM} {vi vl : Value} (h : PS w P xs ls vi vl) (hb : Below w.heap.size w w') : PS w' P xs ls vi vl :=
  h.next (below_fr hb _) ((hb.block _ h.lt).trans h.blk) (row_keep h.owi (fun k _ hk => hb.block k hk) (Nat.le_refl _)) (row_keep h.owl (fun k _ hk => hb.block k hk) (Nat.le_refl _)) (fun _ hm => .inl hm) (fun _ hm => .inl hm)
def pgOf (xs : List NM) (ls : List LM) : Pg := ⟨xs.map (·.inp), ls.map (·.ln)⟩
theorem PS.cells {w : World} {P : Nat} {xs : List NM} {ls : List LM} {vi vl : Value} (h : PS w P xs ls vi vl) : w.cell? ⟨P, 0, none⟩ = some vi ∧ w.cell? ⟨P, 1, none⟩ = some vl ∧ ∀ o, w.frozen? ⟨P, o, none⟩ = false :=
  ⟨by rw [cell_of_row _ _ _ _ _ _ h.blk]; rfl, by rw [cell_of_row _ _ _ _ _ _ h.blk]; rfl, fun o => frozen_of_row _ _ _ _ _ h.blk⟩
theorem flatL_get : ∀ (l : List LM) (i j : Nat) (h : i < l.length), j < 3 → (l.flatMap LM.cells)[i * 3 + j]? = (l[i]).cells[j]?
  | [], i, j, h, _ => by simp at h
  | a :: t, 0, j, _, hj => by
    rw [List.flatMap_cons, List.getElem?_append_left (by simp [LM.cells]; omega)]; simp
  | a :: t, i + 1, j, h, hj => by
    have ih := flatL_get t i j (by simpa using h) hj
    rw [List.flatMap_cons, List.getElem?_append_right (by simp [LM.cells]; omega)]
    simp only [List.getElem_cons_succ]
    rw [← ih]
    congr 1
    simp only [LM.cells, List.length_cons, List.length_nil]
    omega
set_option maxHeartbeats 1000000 in
theorem complete_any (w : World) (P : Nat) (xs : List NM) (ls : List LM) (vi vl : Value) (h : PS w P xs ls vi vl) (hl : ls.length ≤ 1000) : Calls Tryz.prog 21 #[.agg #[vi, vl]] w fun e w' => e = .returned (.bool (compl (pgOf xs ls))) ∧ Gr w w' := by
  obtain ⟨A, ca, rfl, hca⟩ := row_shape h.owl
  rcases List.eq_nil_or_concat ls with rfl | ⟨l0, m, rfl⟩
  · have hx := Lib.hid (show compl (pgOf xs []) = false from rfl)
    clear h
    go_enter Tryz.func21, Tryz.ntmps21
    go_wp2
    go_ret
    exact ⟨by rw [hx.out]; rfl, gr_alloc (Gr.refl _) _⟩
  · have hlen : (l0.concat m).length = l0.length + 1 := by simp
    obtain ⟨g, cap, e, hg1, hg2⟩ := h.owl.form (by rw [hlen]; omega)
    injection e with e1 e2 e3
    subst e1 e3
    have hc : w.cell? ⟨g, l0.length * 3, none⟩ = some (.string (bs m.ln.nm)) := by
      have h1 := World.ownsRow.cellAt h.owl (l0.length * 3 + 0) (by rw [hlen]; omega)
      rw [flatL_get _ _ _ (by rw [hlen]; omega) (by omega)] at h1
      simpa [LM.cells] using h1
    have hx := Lib.hid (show compl (pgOf xs (l0.concat m)) = (m.ln.nm == []) by simp [compl, pgOf])
    rw [hlen] at hca ⊢
    simp only [List.concat_eq_append, List.length_append, List.length_cons, List.length_nil] at hl
    clear h hlen
    by_cases hn : m.ln.nm = []
    · have hy := Lib.hid (show (m.ln.nm == []) = true by simp [hn])
      have hz := cmpYes hn
      clear hn
      go_enter Tryz.func21, Tryz.ntmps21
      go_wp2
      go_ret
      exact ⟨ret_bool (by simpa using (hx.out.trans hy.out).symm), gr_alloc (Gr.refl _) _⟩
    · have hy := Lib.hid (show (m.ln.nm == []) = false by simp [hn])
      have hz := cmpNo hn
      clear hn
      go_enter Tryz.func21, Tryz.ntmps21
      go_wp2
      go_ret
      exact ⟨ret_bool (by simpa using (hx.out.trans hy.out).symm), gr_alloc (Gr.refl _) _⟩
end Go.Proofs.YtbapgdhcbfpdoaaGreatDoor
/- Contract of package parse: addLine. -/
namespace Go.Proofs.YtbapgdhcbfpdoaaGreatDoor
open Go.RowKit
def AddRes (w : World) (P : Nat) (xs : List NM) (ls : List LM) (vi vl : Value) (x : Pr) (e : Ending) (w' : World) : Prop := match x with
  | .err a c => e = .returned (.agg #[.int .i64 a, .int .i64 c]) ∧ Fr (PM P vi vl) w w'
  | .ok q => e = .returned (.agg #[.int .i64 0, .int .i64 0]) ∧ ∃ xs' ls' vi' vl', PS w' P xs' ls' vi' vl' ∧ pgOf xs' ls' = q ∧ Fr (PM P vi vl) w w' ∧ NR w.heap.size vi vi' ∧ NR w.heap.size vl vl' ∧ xs'.length + ls'.length ≤ xs.length + ls.length + 1
def lnOf (p : Pg) (nm : List UInt8) (pl : Int) : Er → Pr
  | .err a e => .err a e
  | .ok its => .ok ⟨p.ins, p.lns ++ [⟨nm, pl, its⟩]⟩
theorem ln_of (p : Pg) (nm : List UInt8) (pl : Int) (ts : List Tk) : addLnR p nm pl ts = lnOf p nm pl (exprR ts) := by
  unfold addLnR lnOf
  cases exprR ts <;> rfl
theorem pg_ln {xs : List NM} {ls : List LM} {m : LM} {x : Ln} (h : m.ln = x) : pgOf xs (ls ++ [m]) = ⟨(pgOf xs ls).ins, (pgOf xs ls).lns ++ [x]⟩ := by subst h; simp [pgOf]
theorem pg_in {xs : List NM} {ls : List LM} {m : NM} {x : Inp} (h : m.inp = x) : pgOf (xs ++ [m]) ls = ⟨(pgOf xs ls).ins ++ [x], (pgOf xs ls).lns⟩ := by subst h; simp [pgOf]
theorem infoL : (Tryz.prog.info? 33).map (fun i => (i.zero, i.size, i.bytes)) = some (some (.agg #[.string ⟨#[]⟩, .int .i64 0, .slice none 0 0]), 3, 48) := by kernel_rfl
theorem LM.one (m : LM) : ∀ u ∈ m.cells, u.oneCell' = true := by
  intro u hu; simp [LM.cells] at hu; rcases hu with rfl | rfl | rfl <;> rfl
/-- Tokens that can be read. -/
structure TR (w : World) (b o c : Nat) (ts : List Tk) : Prop where
  tok : ∀ i, i < ts.length → Cells4 w b (o + i * 4) (nth ts i)
  tb : ∃ cs fr, w.heap[b]? = some (.cells cs 56 fr)
  cap : ts.length ≤ c
  len : ts.length ≤ 1000
  lw : ∀ t ∈ ts, t.w.length ≤ 1000
theorem TR.keep {w w' : World} {b o c : Nat} {ts : List Tk} (h : TR w b o c ts) (hb : ∀ cs fr, w.heap[b]? = some (.cells cs 56 fr) → w'.heap[b]? = w.heap[b]?) : TR w' b o c ts := by
  obtain ⟨cs, fr, e⟩ := h.tb
  have e2 := hb cs fr e
  exact ⟨fun i hi => cells4_keep (h.tok i hi) e2, ⟨cs, fr, e2.trans e⟩, h.cap, h.len, h.lw⟩
theorem TR.below {w w' : World} {b o c : Nat} {ts : List Tk} (h : TR w b o c ts) (hb : Below w.heap.size w w') : TR w' b o c ts := h.keep fun _ _ e => hb.block b (heap_lt e)
theorem line_close {w W3 w4 : World} {P : Nat} {xs : List NM} {ls : List LM} {vi : Value} {A : Option Addr} {ct : Nat} (h : PS w P xs ls vi (.slice A ls.length ct)) (m : LM) {x : Obj} {g cap n1 : Nat} {cs1 : Array Value} {fr1 : Nat × Nat} (hb : Below w.heap.size w W3) (hgrow : (W3.alloc x).drew.grownBy w4 (Value.slice A ls.length ct).ownBlock)
    (hown : w4.ownsRow (P + 1) 33 3 (.slice (some ⟨g, 0, none⟩) (ls.length + 1) cap) (ls.length + 1) (ls.flatMap LM.cells ++ m.cells)) (hat : (Value.slice A ls.length ct).ownBlock = some g ∨ g = W3.heap.size + 1) (hr : RdIt W3 m.A m.ln.its) (hc : m.ln.its.length ≤ m.c) (hn1 : w.heap.size ≤ n1) (hf1 : W3.heap[n1]? = some (.cells cs1 41 fr1)) :
    PS (((w4.setCell ⟨P, 1, none⟩ (.slice (some ⟨g, 0, none⟩) (ls.length + 1) cap)).setCell ⟨n1, 0, none⟩ (.int .i64 0)).setCell ⟨n1, 1, none⟩ (.int .i64 0)) P xs (ls ++ [m]) vi (.slice (some ⟨g, 0, none⟩) (ls.length + 1) cap) ∧
    Fr (PM P vi (.slice A ls.length ct)) w (((w4.setCell ⟨P, 1, none⟩ (.slice (some ⟨g, 0, none⟩) (ls.length + 1) cap)).setCell ⟨n1, 0, none⟩ (.int .i64 0)).setCell ⟨n1, 1, none⟩ (.int .i64 0)) ∧ NR w.heap.size (.slice A ls.length ct) (.slice (some ⟨g, 0, none⟩) (ls.length + 1) cap) := by
  have hPl := h.lt
  have hrow : ∀ j, (Value.slice A ls.length ct).ownBlock = some j → P < j ∧ j < w.heap.size ∧ ∃ cur, W3.heap[j]? = some (.cells cur 33 (0, 0)) := fun j hj => by
    have h1 := row_base h.owl hj
    obtain ⟨cur, h2⟩ := row_type h.owl hj
    exact ⟨by omega, h1.2, cur, (hb.block j h1.2).trans h2⟩
  have hP3 : W3.heap[P]? = _ := (hb.block P hPl).trans h.blk
  have hk4 : ∀ j, j < W3.heap.size → (Value.slice A ls.length ct).ownBlock ≠ some j → w4.heap[j]? = W3.heap[j]? := fun j hj hn => ((hgrow.block j (by simp; omega) (Ne.symm hn)).trans (heap_alloc_old W3 _ hj))
  have hz := hgrow.size
  have hz : W3.heap.size + 1 ≤ w4.heap.size := by simpa using hz
  have hg := (row_base hown (k := g) rfl)
  have l1 := heap_lt hf1
  have gn : g ≠ n1 := by
    rcases hat with h1 | h1
    · have := hrow _ h1; omega
    · omega
  have hbs := hb.size
  have F0 : Fr (fun j => j = P ∨ (Value.slice A ls.length ct).ownBlock = some j) w w4 := ((below_fr hb _).trans (below_fr (up_drew W3 x) _)).trans (Fr.grown hgrow _ fun j hj => .inr hj)
  have F1 := ((F0.set (.inl (.inl rfl) : (P = P ∨ (Value.slice A ls.length ct).ownBlock = some P) ∨ _) 1 (.slice (some ⟨g, 0, none⟩) (ls.length + 1) cap)).set (b := n1) (.inr hn1) 0 (.int .i64 0)).set (b := n1) (.inr hn1) 1 (.int .i64 0)
  have F := F1.weak (T := PM P vi (.slice A ls.length ct)) fun i _ hi => hi.elim .inl fun e => .inr (.inr e)
  refine ⟨h.next F ?_ ?_ ?_ ?_ (fun _ hm => .inl hm), F, NR.of (hat.imp id fun e => by omega) rfl⟩
  · rw [Fr.set.heap_set_other (by omega), Fr.set.heap_set_other (by omega), heap_setCell_same _ _ _ _ _ _ ((hk4 P (by omega) (fun e => by have := (hrow _ e).1; omega)).trans hP3)]; rfl
  · exact row_keep h.owi (fun j hk hl => F1.block j hl (by
      rintro (h1 | h1)
      · have := (row_base h.owi hk).1; omega
      · exact rows_ne h.owi h.owl (by decide) hk h1)) (Nat.le_refl _)
  · rw [List.length_append, List.flatMap_append]
    simp only [List.length_cons, List.length_nil, List.flatMap_cons, List.flatMap_nil, List.append_nil]
    exact ownsRow_setCell_other (a := ⟨n1, 1, none⟩) (ownsRow_setCell_other (a := ⟨n1, 0, none⟩) (ownsRow_setCell_other (a := ⟨P, 1, none⟩) hown (by simp [Value.ownBlock]; omega) _) (by simp [Value.ownBlock]; omega) _) (by simp [Value.ownBlock]; omega) _
  · intro y hy
    rw [List.mem_append] at hy
    rcases hy with hy | hy
    · exact .inl hy
    · simp at hy
      subst hy
      refine .inr ⟨hr.grow (by simp; omega) fun b cs T fr hbb hT => ?_, hc⟩
      have hlb := heap_lt hbb
      have nT : ∀ {cs' : Array Value} {T' : TypeId} {fr' : Nat × Nat} {j : Nat}, W3.heap[j]? = some (.cells cs' T' fr') → T' ≠ 37 → T' ≠ 2 → b ≠ j := fun {cs' T' fr' j} hj h1 h2 e => by
        subst e
        rw [hbb] at hj
        simp at hj
        rcases hT with hT | hT
        · exact h1 (hj.2.1.symm.trans hT)
        · exact h2 (hj.2.1.symm.trans hT)
      rw [Fr.set.heap_set_other (nT hf1 (by decide) (by decide)), Fr.set.heap_set_other (nT hf1 (by decide) (by decide)), Fr.set.heap_set_other (nT hP3 (by decide) (by decide))]
      refine hk4 b hlb fun e => ?_
      obtain ⟨cur, hc'⟩ := (hrow b e).2.2
      exact nT hc' (by decide) (by decide) rfl
theorem lw_below (w : World) (nm : List UInt8) (pl : Int) : Below w.heap.size w ((w.alloc (.cells #[.string (bs nm), .int .i64 pl, .slice none 0 0] 33)).alloc (.cells #[.int .i64 0, .int .i64 0] 41)) := ((Below.refl _ _).alloc (Nat.le_refl _) _).alloc (by simp) _
set_option maxRecDepth 100000 in
set_option maxHeartbeats 3200000 in
theorem addLine_any (w : World) (P : Nat) (xs : List NM) (ls : List LM) (vi vl : Value) (h : PS w P xs ls vi vl) (nm : List UInt8) (pl : Int) (b o c : Nat) (ts : List Tk) (hT : TR w b o c ts) (hE : Ends ts) (hL : LaidP w) (hn : ls.length ≤ 1000) :
    Calls Tryz.prog 37 #[.pointer (some ⟨P, 0, none⟩), .agg #[.string (bs nm), .int .i64 pl, .slice none 0 0], .slice (some ⟨b, o, none⟩) ts.length c] w (AddRes w P xs ls vi vl (addLnR (pgOf xs ls) nm pl ts)) := by
  have HS := Lib.hid h
  have HT := Lib.hid hT
  have hex := fun W (hT : TR W b o c ts) (hL : LaidP W) => expr_any W b o c ts hT.tok hT.tb (by obtain ⟨cs, fr, e⟩ := hT.tb; exact heap_lt e) hT.cap hE hT.lw hT.len hL
  obtain ⟨x, hx⟩ : ∃ x, x = exprR ts := ⟨_, rfl⟩
  have hr := ln_of (pgOf xs ls) nm pl ts
  rw [← hx] at hr
  rw [← hx] at hex
  rw [hr]
  have HX := Lib.hid hx
  clear h hT hE hx hr
  cases x with
  | err a e =>
    have hne : e ≠ 0 := by have := (mrun_err _ _ _ _ _ _ _ (Nat.le_refl _) HX.out.symm).1; omega
    have hne2 : (e != 0) = true := by simpa using hne
    go_enter Tryz.func37, Tryz.ntmps37
    go_wp2_with (go_at_call 56; refine (hex _ (HT.out.below (lw_below w nm pl)) (hL.below (lw_below w nm pl))).mono ?_; rintro y w1 ⟨rfl, hb1⟩; have h0 := (hb1.block w.heap.size (by rw [size2]; omega)).trans (box1 w (.cells #[.string (bs nm), .int .i64 pl, .slice none 0 0] 33) (.cells #[.int .i64 0, .int .i64 0] 41)); have h1 := (hb1.block (w.heap.size + 1) (by rw [size2]; omega)).trans (box2 w (.cells #[.string (bs nm), .int .i64 pl, .slice none 0 0] 33) (.cells #[.int .i64 0, .int .i64 0] 41)); have j0 : w1.cell? ⟨w.heap.size + 1, 0, none⟩ = some (.int .i64 0) := (by rw [cell_of_row _ _ _ _ _ _ h1]; rfl); have j1 : w1.cell? ⟨w.heap.size + 1, 1, none⟩ = some (.int .i64 0) := (by rw [cell_of_row _ _ _ _ _ _ h1]; rfl); have j2 : w1.frozen? ⟨w.heap.size + 1, 0, none⟩ = false := frozen_of_row _ _ _ _ _ h1; have j3 : w1.frozen? ⟨w.heap.size + 1, 1, none⟩ = false := frozen_of_row _ _ _ _ _ h1; have lz := hb1.size; rw [size2] at lz; have lz1 : w.heap.size + 1 < w1.heap.size := (by omega); have HB1 := Lib.hid hb1; clear hb1 h0 h1)
    exact bodyPost_ret (v := .agg #[.int .i64 a, .int .i64 e]) (by simp [results, Tryz.results37, go_sem, j0, j1, lz1]) rfl ⟨rfl, below_fr (((((lw_below w nm pl).trans (HB1.out.mono (by rw [size2]; omega))).setCell (p := ⟨w.heap.size + 1, 0, none⟩) (by show w.heap.size ≤ w.heap.size + 1; omega) _).setCell (p := ⟨w.heap.size + 1, 1, none⟩) (by show w.heap.size ≤ w.heap.size + 1; omega) _).alloc (by simp; omega) _) _⟩
  | ok its =>
    go_enter Tryz.func37, Tryz.ntmps37
    go_wp2_with (go_at_call 56; refine (hex _ (HT.out.below (lw_below w nm pl)) (hL.below (lw_below w nm pl))).mono ?_; rintro y w1 ⟨AI, cI, rfl, hcI, hrd, hb1⟩; have h0 := (hb1.block w.heap.size (by rw [size2]; omega)).trans (box1 w (.cells #[.string (bs nm), .int .i64 pl, .slice none 0 0] 33) (.cells #[.int .i64 0, .int .i64 0] 41)); have h1 := (hb1.block (w.heap.size + 1) (by rw [size2]; omega)).trans (box2 w (.cells #[.string (bs nm), .int .i64 pl, .slice none 0 0] 33) (.cells #[.int .i64 0, .int .i64 0] 41)); have j0 : w1.cell? ⟨w.heap.size + 1, 0, none⟩ = some (.int .i64 0) := (by rw [cell_of_row _ _ _ _ _ _ h1]; rfl); have j1 : w1.cell? ⟨w.heap.size + 1, 1, none⟩ = some (.int .i64 0) := (by rw [cell_of_row _ _ _ _ _ _ h1]; rfl); have j2 : w1.frozen? ⟨w.heap.size + 1, 0, none⟩ = false := frozen_of_row _ _ _ _ _ h1; have j3 : w1.frozen? ⟨w.heap.size + 1, 1, none⟩ = false := frozen_of_row _ _ _ _ _ h1; have lz := hb1.size; rw [size2] at lz; have lz1 : w.heap.size + 1 < w1.heap.size := (by omega); have c00 : w1.cell? ⟨w.heap.size, 0, none⟩ = some (.string (bs nm)) := (by rw [cell_of_row _ _ _ _ _ _ h0]; rfl); have c01 : w1.cell? ⟨w.heap.size, 1, none⟩ = some (.int .i64 pl) := (by rw [cell_of_row _ _ _ _ _ _ h0]; rfl); have c02 : w1.cell? ⟨w.heap.size, 2, none⟩ = some (.slice none 0 0) := (by rw [cell_of_row _ _ _ _ _ _ h0]; rfl); have c03 : w1.frozen? ⟨w.heap.size, 2, none⟩ = false := frozen_of_row _ _ _ _ _ h0; have lz0 : w.heap.size < w1.heap.size := (by omega); have HB1 := Lib.hid (And.intro hb1 (And.intro hcI (And.intro hrd (And.intro h0 h1)))); clear hb1 h0 h1 hcI hrd)
    obtain ⟨W3, hW3⟩ : ∃ W, W = (w1.setCell ⟨w.heap.size, 2, none⟩ (.slice AI its.length cI)).alloc (.cells #[.int .i64 0, .int .i64 0] 41) := ⟨_, rfl⟩
    rw [← hW3]
    obtain ⟨m, hm⟩ : ∃ m : LM, m = ⟨⟨nm, pl, its⟩, AI, cI⟩ := ⟨_, rfl⟩
    have hz3 : W3.heap.size = w1.heap.size + 1 := by rw [hW3]; simp
    have hold : ∀ j, j < w1.heap.size → ¬ j = w.heap.size → W3.heap[j]? = w1.heap[j]? := fun j h1 h2 => by rw [hW3]; exact (heap_alloc_old _ _ (by simpa using h1)).trans (Fr.set.heap_set_other h2)
    have hb3 : Below w.heap.size w W3 := by
      rw [hW3]
      exact (((lw_below w nm pl).trans (HB1.out.1.mono (by rw [size2]; omega))).setCell (p := ⟨w.heap.size, 2, none⟩) (Nat.le_refl _) _).alloc (by simp; omega) _
    have hl3 : W3.heap[w.heap.size]? = some (.cells m.cells.toArray 33 (0, 0)) := by
      rw [hW3, hm]
      exact (heap_alloc_old _ _ (by simpa using lz0)).trans (by rw [heap_setCell_same _ _ _ _ _ _ HB1.out.2.2.2.1]; rfl)
    have hf3 : W3.heap[w1.heap.size]? = some (.cells #[.int .i64 0, .int .i64 0] 41 (0, 0)) := by
      rw [hW3]
      have h := heap_alloc_new (w1.setCell ⟨w.heap.size, 2, none⟩ (.slice AI its.length cI)) (.cells #[.int .i64 0, .int .i64 0] 41)
      rw [show (w1.setCell ⟨w.heap.size, 2, none⟩ (.slice AI its.length cI)).heap.size = w1.heap.size by simp] at h
      exact h
    have hn3 : W3.heap[w.heap.size + 1]? = some (.cells #[.int .i64 0, .int .i64 0] 41 (0, 0)) := (hold _ lz1 (by omega)).trans HB1.out.2.2.2.2
    have hr3 : RdIt W3 m.A m.ln.its := by
      rw [hm]
      refine RdI.grow HB1.out.2.2.1 (by omega) fun b' cs T fr hb' hT => hold b' (heap_lt hb') fun e => ?_
      subst e
      rw [HB1.out.2.2.2.1] at hb'
      simp at hb'
      rcases hT with hT | hT <;> (rw [hT] at hb'; exact absurd hb'.2.1 (by decide))
    obtain ⟨A, ct, rfl, hct⟩ := row_shape HS.out.owl
    have hO3 := Lib.hid (row_keep HS.out.owl (fun j _ hl => hb3.block j hl) (Nat.le_refl _))
    have hP3 : W3.heap[P]? = _ := (hb3.block P HS.out.lt).trans HS.out.blk
    have hPl := HS.out.lt
    have nP : (Value.slice A ls.length ct).ownBlock ≠ some P := fun h => by have := (row_base HS.out.owl h).1; omega
    have nO : ∀ j, w.heap.size ≤ j → (Value.slice A ls.length ct).ownBlock ≠ some j := fun j hj h => by have := (row_base HS.out.owl h).2; omega
    have cP : W3.cell? ⟨P, 1, none⟩ = some (.slice A ls.length ct) := by rw [cell_of_row _ _ _ _ _ _ hP3]; rfl
    have fP : W3.frozen? ⟨P, 1, none⟩ = false := frozen_of_row _ _ _ _ _ hP3
    have l30 : W3.cell? ⟨w.heap.size, 0, none⟩ = some (.string (bs m.ln.nm)) := by rw [cell_of_row _ _ _ _ _ _ hl3]; rfl
    have l31 : W3.cell? ⟨w.heap.size, 1, none⟩ = some (.int .i64 m.ln.pl) := by rw [cell_of_row _ _ _ _ _ _ hl3]; rfl
    have l32 : W3.cell? ⟨w.heap.size, 2, none⟩ = some (.slice m.A m.ln.its.length m.c) := by rw [cell_of_row _ _ _ _ _ _ hl3]; rfl
    have lP : P < W3.heap.size := by omega
    have ln0 : w.heap.size < W3.heap.size := by omega
    have hn1 : ls.length + 1 ≤ maxLen := by unfold maxLen; omega
    have hn2 : (ls.length + 1) * 48 ≤ 140737488355328 := by omega
    have hmi : m.ln = ⟨nm, pl, its⟩ := by rw [hm]
    have hmc : m.ln.its.length ≤ m.c := by rw [hm]; exact HB1.out.2.1
    have HH := Lib.hid (And.intro hb3 (And.intro hn3 (And.intro hf3 (And.intro hr3 (And.intro hmc hmi)))))
    have l6 : w.heap.size + 1 < W3.heap.size := by omega
    have l7 : w1.heap.size < W3.heap.size := by omega
    clear hz3 hold hb3 hl3 hf3 hn3 hr3 hP3 hmi hmc hm hW3 c00 c01 c02 c03 j0 j1 j2 j3
    obtain ⟨i0, hi, hz0, hz1, hz2⟩ := info_parts infoL
    have HI := Lib.hid (And.intro hi (And.intro hz0 (And.intro hz1 hz2)))
    clear hi hz0 hz1 hz2
    go_region_law ((refine step_append_lies _ (by rfl) _ _ _ (by rfl) (P + 1) 33 i0 _ 3 48 Tryz.underlying23 HI.out.1 HI.out.2.1 HI.out.2.2.1 HI.out.2.2.2 rfl (by omega) (.slice A ls.length ct) ls.length (ls.flatMap LM.cells) (by rfl) ((hO3.out.alloc _).drew) ⟨W3.heap.size, 0, none⟩ 1 1 m.cells (by rfl) (by rfl) (World.news_of_block (cs := m.cells.toArray) (t := 33) (fr := (0, 0)) (heap_alloc_new W3 _)) (LM.one m) (by omega) hn1 hn2 (by simp; omega) (W3.heap.size + 1) (by simp) ?_; intro g cap w4 hown4 hgrow hat hlt4; have hk4 : ∀ j, j < W3.heap.size → (Value.slice A ls.length ct).ownBlock ≠ some j → w4.heap[j]? = W3.heap[j]? := fun j hj hn => ((hgrow.block j (by simp; omega) (Ne.symm hn)).trans (heap_alloc_old W3 _ hj)); have k2 := (World.cell?_of_block (a := ⟨P, 1, none⟩) (hk4 _ lP nP)).trans cP; have k3 := (World.frozen?_of_block (a := ⟨P, 1, none⟩) (hk4 _ lP nP)).trans fP))
    all_goals
      have g1 : w4.heap[w.heap.size + 1]? = _ := (hk4 _ l6 (nO _ (by omega))).trans HH.out.2.1
      have g2 : w4.heap[w1.heap.size]? = _ := (hk4 _ l7 (nO _ (by omega))).trans HH.out.2.2.1
      have j0 : w4.cell? ⟨w.heap.size + 1, 0, none⟩ = some (.int .i64 0) := by rw [cell_of_row _ _ _ _ _ _ g1]; rfl
      have j1 : w4.cell? ⟨w.heap.size + 1, 1, none⟩ = some (.int .i64 0) := by rw [cell_of_row _ _ _ _ _ _ g1]; rfl
      have j2 : w4.frozen? ⟨w.heap.size + 1, 0, none⟩ = false := frozen_of_row _ _ _ _ _ g1
      have j3 : w4.frozen? ⟨w.heap.size + 1, 1, none⟩ = false := frozen_of_row _ _ _ _ _ g1
      have j4 : w4.cell? ⟨w1.heap.size, 0, none⟩ = some (.int .i64 0) := by rw [cell_of_row _ _ _ _ _ _ g2]; rfl
      have j5 : w4.cell? ⟨w1.heap.size, 1, none⟩ = some (.int .i64 0) := by rw [cell_of_row _ _ _ _ _ _ g2]; rfl
      have q1 : ¬ P = w.heap.size + 1 := by omega
      have q2 : ¬ w.heap.size + 1 = P := by omega
      have q3 : ¬ P = w1.heap.size := by omega
      have q4 : ¬ w1.heap.size = P := by omega
      have hfin := Lib.hid (line_close HS.out m HH.out.1 hgrow hown4 hat HH.out.2.2.2.1 HH.out.2.2.2.2.1 (by omega : w.heap.size ≤ w.heap.size + 1) HH.out.2.1)
      clear g1 g2 hgrow hown4 hat hk4
      go_wp2
      exact bodyPost_ret (v := .agg #[.int .i64 0, .int .i64 0]) (by simp [results, Tryz.results37, go_sem, j0, j1]) rfl ⟨rfl, xs, ls ++ [m], vi, _, hfin.out.1, pg_ln HH.out.2.2.2.2.2, hfin.out.2.1, NR.refl _ _, hfin.out.2.2, by simp; omega⟩
end Go.Proofs.YtbapgdhcbfpdoaaGreatDoor
