/- A program copied: own rows, one beside the other. -/
import Derived.Test.YtbapgdhcbfpdoaaGreatDoorZSo
import Derived.Test.YtbapgdhcbfpdoaaGreatDoorZPg
namespace Go.Proofs.YtbapgdhcbfpdoaaGreatDoor
open Go.RowKit
set_option linter.unusedVariables false
set_option linter.unusedSimpArgs false
set_option maxRecDepth 100000
theorem append_zero0 {w : World} {base : Nat} {e : TypeId} {i : TypeInfo} {size : Nat} (t ty : TypeId) (ht : Tryz.prog.underlying t = some (.slice e)) (hi : Tryz.prog.info? e = some i)
    (v : Value) (n : Nat) (xs : List Value) (hown : w.ownsRow base e size v n xs) (A2 : Option Addr) (c : Nat) :
    (Builtin.append_ #[t, t] ty #[v, .slice A2 0 c]).run Tryz.prog w = .ok v w := by
  rcases hown.2 with ⟨rfl, rfl⟩ | ⟨g, cap, cur, rfl, _, _, hnc, _⟩
  · cases A2 with
    | none => simp [Builtin.append_, run_underlying ht, sizeOf, typeInfo, hi, Builtin.lenOf, Builtin.firstCells]
    | some a => simp [Builtin.append_, run_underlying ht, sizeOf, typeInfo, hi, Builtin.lenOf, Builtin.firstCells, loadCells, loadCellsFrom]
  · cases A2 with
    | none => simp [Builtin.append_, run_underlying ht, sizeOf, typeInfo, hi, Builtin.lenOf, Builtin.firstCells, hnc, storeCells]
    | some a => simp [Builtin.append_, run_underlying ht, sizeOf, typeInfo, hi, Builtin.lenOf, Builtin.firstCells, hnc, storeCells, loadCells, loadCellsFrom]
/-- Cells that may be read one behind the other. -/
def NewsAt (w : World) (A : Option Addr) (m : Nat) (news : List Value) : Prop := 0 < m → ∃ b o, A = some ⟨b, o, none⟩ ∧ ∀ (j : Nat) (u : Value), news[j]? = some u → w.cell? ((⟨b, o, none⟩ : Addr).add j) = some u
theorem NewsAt.below {w w' : World} {A : Option Addr} {m : Nat} {news : List Value} (h : NewsAt w A m news) (hne : 0 < m → 0 < news.length) (hb : Below w.heap.size w w') : NewsAt w' A m news := fun hm => by
  obtain ⟨b, o, e, hc⟩ := h hm
  obtain ⟨u, hu⟩ : ∃ u, news[0]? = some u := ⟨_, List.getElem?_eq_getElem (hne hm)⟩
  have h0 := hc 0 u hu
  rw [WideShapes.add_plain] at h0
  exact ⟨b, o, e, news_below hb (cell_lt h0) hc⟩
theorem run_append_gen0 {w : World} (t ty e : TypeId) (i : TypeInfo) (z : Value) (size bytes : Nat) (ht : Tryz.prog.underlying t = some (.slice e)) (hi : Tryz.prog.info? e = some i) (hz : i.zero = some z) (hsize : i.size = size) (hby : i.bytes = bytes) (hzs : z.cells.size = size) (hsz : 0 < size)
    (B : Nat) (v : Value) (h : w.ownsRow B e size v 0 []) (A2 : Option Addr) (m c2 : Nat) (news : List Value) (hn : news.length = m * size) (hr : NewsAt w A2 m news) (h1 : ∀ u ∈ news, u.oneCell' = true) (hm : m ≤ maxLen) (hbytes : m * bytes ≤ 140737488355328) (hb : B ≤ w.heap.size) :
    ∃ A' c' w', (Builtin.append_ #[t, t] ty #[v, .slice A2 m c2]).run Tryz.prog w = .ok (.slice A' m c') w' ∧ w'.ownsRow B e size (.slice A' m c') m news ∧ Below B w w' ∧ ∀ b, b < w.heap.size → v.ownBlock ≠ some b → w'.heap[b]? = w.heap[b]? := by
  rcases Nat.eq_zero_or_pos m with h0 | h0
  · subst h0
    obtain rfl : news = [] := List.length_eq_zero_iff.1 (by simpa using hn)
    have hrun := append_zero0 (w := w) t ty ht hi v 0 _ h A2 c2
    obtain ⟨A, c, rfl, _⟩ := row_shape h
    exact ⟨A, c, w, hrun, h, Below.refl _ _, fun _ _ _ => rfl⟩
  · obtain ⟨b, o, rfl, hc⟩ := hr h0
    obtain ⟨g, cap, w', k1, k2, k3, _, _⟩ := run_append_lies (P := Tryz.prog) w t ty B e i z size bytes ht hi hz hsize hby hzs hsz v 0 [] h ⟨b, o, none⟩ m c2 news hn hc h1 h0 (by rw [Nat.zero_add]; exact hm) (by rw [Nat.zero_add]; exact hbytes) hb w.heap.size rfl
    rw [Nat.zero_add] at k1 k2
    rw [List.nil_append] at k2
    exact ⟨some ⟨g, 0, none⟩, cap, w', k1, k2, (Below.refl B w).grown k3 hb fun k hk => (row_base h hk).1, fun b hb2 hne => k3.block b hb2 (Ne.symm hne)⟩
theorem step_append_gen0 {w : World} {ops : Array Oper} {o : Oper} {a : Act} {K : Act → World → Prop} {Q : Exit → Act → World → Prop} {E : Prop} (hgd : o.guard = none) (sl x : Operand) (t : TypeId)
    (ho : o.op = .call { callee := .builtin .append, args := #[sl, x], argTypes := #[t, t] }) (e : TypeId) (i : TypeInfo) (z : Value) (size bytes : Nat) (ht : Tryz.prog.underlying t = some (.slice e)) (hi : Tryz.prog.info? e = some i) (hz : i.zero = some z) (hsize : i.size = size) (hby : i.bytes = bytes) (hzs : z.cells.size = size) (hsz : 0 < size)
    (B : Nat) (v : Value) (hs : a.eval sl = v) (h : w.ownsRow B e size v 0 []) (A2 : Option Addr) (m c2 : Nat) (news : List Value) (hx : a.eval x = .slice A2 m c2) (hn : news.length = m * size) (hr : NewsAt w A2 m news) (h1 : ∀ u ∈ news, u.oneCell' = true) (hm : m ≤ maxLen) (hbytes : m * bytes ≤ 140737488355328) (hb : B ≤ w.heap.size)
    (hK : ∀ A' c' w', w'.ownsRow B e size (.slice A' m c') m news → Below B w w' → (∀ b, b < w.heap.size → v.ownBlock ≠ some b → w'.heap[b]? = w.heap[b]?) → K (a.put o.dst (.slice A' m c')) w') :
    if Region.wanted o (yielded ops a.tmps) = true then Oper.wp Tryz.prog o a w K Q else E := by
  have hw : Region.wanted o (yielded ops a.tmps) = true := by simp [Region.wanted, hgd]
  rw [if_pos hw]
  obtain ⟨A', c', w', hrun, h2, h3, h4⟩ := run_append_gen0 t o.type e i z size bytes ht hi hz hsize hby hzs hsz B v h A2 m c2 news hn hr h1 hm hbytes hb
  unfold Oper.wp execOp
  simp only [ho, resolve, invoke, builtin, Sem.run_bind, Sem.run_pure, Result.andThen_ok, List.map_toArray, List.map_cons, List.map_nil, hs, hx, hrun]
  exact hK A' c' w' h2 h3 h4
theorem own_zero0 {w : World} {B g size : Nat} {e : TypeId} (h : w.heap[g]? = some (.cells #[] e (0, 0))) (hb : B ≤ g) : w.ownsRow B e size (.slice (some ⟨g, 0, none⟩) 0 0) 0 [] :=
  ⟨by simp, .inr ⟨g, 0, #[], rfl, hb, h, Nat.le_refl _, by unfold maxLen; omega, by simp, by simp⟩⟩
theorem sides_news {w : World} {A : Option Addr} {l : List (List UInt8 × Int)} (h : SdU w A l) : NewsAt w A l.length (l.flatMap scell) := fun hl => by
  obtain ⟨b, o, e, _, hc⟩ := h hl
  refine ⟨b, o, e, fun j u hu => ?_⟩
  rw [WideShapes.add_plain]
  have hj := (List.getElem?_eq_some_iff.1 hu).1
  have hlen : (l.flatMap scell).length = l.length * 2 := by
    clear hu hj hc e hl h
    induction l with
    | nil => rfl
    | cons x r ih => rw [List.flatMap_cons, List.length_append, ih]; simp only [scell, List.length_cons, List.length_nil]; omega
  have hi : j / 2 < l.length := by omega
  have h2 := flatS_get l (j / 2) (j % 2) hi (by omega)
  rw [show j / 2 * 2 + j % 2 = j by omega] at h2
  have h3 := hc (j / 2) hi
  have hx : l.getD (j / 2) default = l[j / 2] := by rw [List.getD_eq_getElem?_getD, List.getElem?_eq_getElem hi]; rfl
  rw [hx] at h3
  rw [hu] at h2
  rcases (by omega : j % 2 = 0 ∨ j % 2 = 1) with e0 | e0
  · rw [e0] at h2
    rw [show o + j = o + j / 2 * 2 by omega, h3.1]; simpa [scell] using h2.symm
  · rw [e0] at h2
    rw [show o + j = o + j / 2 * 2 + 1 by omega, h3.2]; simpa [scell] using h2.symm
theorem scell_len (l : List (List UInt8 × Int)) : (l.flatMap scell).length = l.length * 2 := by
  induction l with
  | nil => rfl
  | cons x r ih => rw [List.flatMap_cons, List.length_append, ih]; simp only [scell, List.length_cons, List.length_nil]; omega
theorem scell_one (l : List (List UInt8 × Int)) : ∀ u ∈ l.flatMap scell, u.oneCell' = true := by
  intro u hu
  obtain ⟨p, _, hp⟩ := List.mem_flatMap.1 hu
  simp only [scell, List.mem_cons, List.not_mem_nil, or_false] at hp
  rcases hp with rfl | rfl <;> rfl
theorem nums_news {w : World} {A : Option Addr} {ns : List Int} (h : NumU w A ns) : NewsAt w A ns.length (ns.map (Value.int .i64)) := fun hl => by
  obtain ⟨b, o, e, _, hc⟩ := h hl
  refine ⟨b, o, e, fun j u hu => ?_⟩
  rw [WideShapes.add_plain]
  rw [List.getElem?_map] at hu
  obtain ⟨y, hy, rfl⟩ := Option.map_eq_some_iff.1 hu
  have hj := (List.getElem?_eq_some_iff.1 hy).1
  rw [hc j hj, List.getD_eq_getElem?_getD, hy]; rfl
theorem nums_own {w : World} {base : Nat} {A : Option Addr} {n c : Nat} {ns : List Int} (h : w.ownsRow base 2 1 (.slice A n c) n (ns.map (Value.int .i64))) (hn : ns.length = n) : RdN w (fun j => j < w.heap.size) A ns := fun hl => by
  obtain ⟨g, cap, e, hg1, hg2⟩ := h.form (by omega)
  injection e with e1 e2 e3
  subst e1 e3
  obtain ⟨cur, hcur⟩ := row_heap h
  refine ⟨g, 0, rfl, ⟨hg2, cur, (0, 0), hcur⟩, fun i hi => ?_⟩
  rw [Nat.zero_add, World.ownsRow.cellAt h i (by omega), List.getElem?_map, List.getElem?_eq_getElem hi, List.getD_eq_getElem?_getD, List.getElem?_eq_getElem hi]
  rfl
/-! ### an input, a line, an item more -/
theorem in_add {w W3 w4 : World} {P : Nat} {xs : List NM} {ls : List LM} {vl : Value} {A : Option Addr} {ct : Nat} (h : PS w P xs ls (.slice A xs.length ct) vl) (m : NM) {x : Obj} {g cap : Nat} (hb : Below w.heap.size w W3) (hgrow : (W3.alloc x).grownBy w4 (Value.slice A xs.length ct).ownBlock)
    (hown : w4.ownsRow (P + 1) 48 3 (.slice (some ⟨g, 0, none⟩) (xs.length + 1) cap) (xs.length + 1) (xs.flatMap NM.cells ++ m.cells)) (hr : RdS W3 m.A m.inp.sd) (hc : m.inp.sd.length ≤ m.c) :
    PS (w4.setCell ⟨P, 0, none⟩ (.slice (some ⟨g, 0, none⟩) (xs.length + 1) cap)) P (xs ++ [m]) ls (.slice (some ⟨g, 0, none⟩) (xs.length + 1) cap) vl ∧ Below P w (w4.setCell ⟨P, 0, none⟩ (.slice (some ⟨g, 0, none⟩) (xs.length + 1) cap)) := by
  have hPl := h.lt
  have hrow : ∀ j, (Value.slice A xs.length ct).ownBlock = some j → P < j ∧ j < w.heap.size ∧ ∃ cur, W3.heap[j]? = some (.cells cur 48 (0, 0)) := fun j hj => by
    have h1 := row_base h.owi hj
    obtain ⟨cur, h2⟩ := row_type h.owi hj
    exact ⟨by omega, h1.2, cur, (hb.block j h1.2).trans h2⟩
  have hP3 : W3.heap[P]? = _ := (hb.block P hPl).trans h.blk
  have hk4 : ∀ j, j < W3.heap.size → (Value.slice A xs.length ct).ownBlock ≠ some j → w4.heap[j]? = W3.heap[j]? := fun j hj hn => ((hgrow.block j (by simp; omega) (Ne.symm hn)).trans (heap_alloc_old W3 _ hj))
  have hz := hgrow.size
  have hz : W3.heap.size + 1 ≤ w4.heap.size := by simpa using hz
  have hg := (row_base hown (k := g) rfl)
  have hbs := hb.size
  have F0 : Fr (fun j => j = P ∨ (Value.slice A xs.length ct).ownBlock = some j) w w4 := ((below_fr hb _).trans (below_fr ((Below.refl _ W3).alloc (Nat.le_refl _) x) _)).trans (Fr.grown hgrow _ fun j hj => .inr hj)
  have F1 := F0.set (.inl (.inl rfl) : (P = P ∨ (Value.slice A xs.length ct).ownBlock = some P) ∨ _) 0 (.slice (some ⟨g, 0, none⟩) (xs.length + 1) cap)
  have F := F1.weak (T := PM P (.slice A xs.length ct) vl) fun i _ hi => hi.elim .inl fun e => .inr (.inl e)
  refine ⟨h.next F ?_ ?b ?a (fun _ hm => .inl hm) ?c, F1.below (Nat.le_of_lt hPl) fun k hk => hk.elim (fun e => by omega) fun e => by have := (hrow k e).1; omega⟩
  · rw [heap_setCell_same _ _ _ _ _ _ ((hk4 P (by omega) (fun e => by have := (hrow _ e).1; omega)).trans hP3)]; rfl
  case a =>
      exact row_keep h.owl (fun j hk hl => F1.block j hl (by
        rintro (h1 | h1)
        · have := (row_base h.owl hk).1; omega
        · exact rows_ne h.owi h.owl (by decide) h1 hk)) (Nat.le_refl _)
  case b =>
      rw [List.length_append, List.flatMap_append]
      simp only [List.length_cons, List.length_nil, List.flatMap_cons, List.flatMap_nil, List.append_nil]
      exact ownsRow_setCell_other (a := ⟨P, 0, none⟩) hown (by simp [Value.ownBlock]; omega) _
  case c =>
      intro y hy
      rw [List.mem_append] at hy
      rcases hy with hy | hy
      · exact .inl hy
      · simp at hy
        subst hy
        refine .inr ⟨RdS.grow hr (by simp [World.setCell]; omega) fun b cs fr e => ?_, hc⟩
        have hbP : ¬ b = P := by
          rintro rfl
          rw [e] at hP3
          simp at hP3
        rw [show (w4.setCell ⟨P, 0, none⟩ (.slice (some ⟨g, 0, none⟩) (xs.length + 1) cap)).heap[b]? = w4.heap[b]? from Fr.set.heap_set_other (by omega)]
        refine hk4 b (heap_lt e) fun e2 => ?_
        obtain ⟨cur, h3⟩ := (hrow b e2).2.2
        rw [e] at h3
        simp at h3
theorem ln_add {w W3 w4 : World} {P : Nat} {xs : List NM} {ls : List LM} {vi : Value} {A : Option Addr} {ct : Nat} (h : PS w P xs ls vi (.slice A ls.length ct)) (m : LM) {x : Obj} {g cap : Nat} (hb : Below w.heap.size w W3) (hgrow : (W3.alloc x).grownBy w4 (Value.slice A ls.length ct).ownBlock)
    (hown : w4.ownsRow (P + 1) 33 3 (.slice (some ⟨g, 0, none⟩) (ls.length + 1) cap) (ls.length + 1) (ls.flatMap LM.cells ++ m.cells)) (hr : RdIt W3 m.A m.ln.its) (hc : m.ln.its.length ≤ m.c) :
    PS (w4.setCell ⟨P, 1, none⟩ (.slice (some ⟨g, 0, none⟩) (ls.length + 1) cap)) P xs (ls ++ [m]) vi (.slice (some ⟨g, 0, none⟩) (ls.length + 1) cap) ∧ Below P w (w4.setCell ⟨P, 1, none⟩ (.slice (some ⟨g, 0, none⟩) (ls.length + 1) cap)) := by
  have hPl := h.lt
  have hrow : ∀ j, (Value.slice A ls.length ct).ownBlock = some j → P < j ∧ j < w.heap.size ∧ ∃ cur, W3.heap[j]? = some (.cells cur 33 (0, 0)) := fun j hj => by
    have h1 := row_base h.owl hj
    obtain ⟨cur, h2⟩ := row_type h.owl hj
    exact ⟨by omega, h1.2, cur, (hb.block j h1.2).trans h2⟩
  have hP3 : W3.heap[P]? = _ := (hb.block P hPl).trans h.blk
  have hk4 : ∀ j, j < W3.heap.size → (Value.slice A ls.length ct).ownBlock ≠ some j → w4.heap[j]? = W3.heap[j]? := fun j hj hn => ((hgrow.block j (by simp; omega) (Ne.symm hn)).trans (heap_alloc_old W3 _ hj))
  have hz := hgrow.size
  have hz : W3.heap.size + 1 ≤ w4.heap.size := by simpa using hz
  have hg := (row_base hown (k := g) rfl)
  have hbs := hb.size
  have F0 : Fr (fun j => j = P ∨ (Value.slice A ls.length ct).ownBlock = some j) w w4 := ((below_fr hb _).trans (below_fr ((Below.refl _ W3).alloc (Nat.le_refl _) x) _)).trans (Fr.grown hgrow _ fun j hj => .inr hj)
  have F1 := F0.set (.inl (.inl rfl) : (P = P ∨ (Value.slice A ls.length ct).ownBlock = some P) ∨ _) 1 (.slice (some ⟨g, 0, none⟩) (ls.length + 1) cap)
  have F := F1.weak (T := PM P vi (.slice A ls.length ct)) fun i _ hi => hi.elim .inl fun e => .inr (.inr e)
  refine ⟨h.next F ?_ ?a ?b ?c (fun _ hm => .inl hm), F1.below (Nat.le_of_lt hPl) fun k hk => hk.elim (fun e => by omega) fun e => by have := (hrow k e).1; omega⟩
  · rw [heap_setCell_same _ _ _ _ _ _ ((hk4 P (by omega) (fun e => by have := (hrow _ e).1; omega)).trans hP3)]; rfl
  case a =>
      exact row_keep h.owi (fun j hk hl => F1.block j hl (by
        rintro (h1 | h1)
        · have := (row_base h.owi hk).1; omega
        · exact rows_ne h.owi h.owl (by decide) hk h1)) (Nat.le_refl _)
  case b =>
      rw [List.length_append, List.flatMap_append]
      simp only [List.length_cons, List.length_nil, List.flatMap_cons, List.flatMap_nil, List.append_nil]
      exact ownsRow_setCell_other (a := ⟨P, 1, none⟩) hown (by simp [Value.ownBlock]; omega) _
  case c =>
      intro y hy
      rw [List.mem_append] at hy
      rcases hy with hy | hy
      · exact .inl hy
      · simp at hy
        subst hy
        refine .inr ⟨RdI.grow hr (by simp [World.setCell]; omega) fun b cs T fr e hT => ?_, hc⟩
        have hbP : ¬ b = P := by
          rintro rfl
          rw [e] at hP3
          simp at hP3
          rcases hT with hT | hT <;> (rw [hT] at hP3; exact absurd hP3.2.1 (by decide))
        rw [show (w4.setCell ⟨P, 1, none⟩ (.slice (some ⟨g, 0, none⟩) (ls.length + 1) cap)).heap[b]? = w4.heap[b]? from Fr.set.heap_set_other (by omega)]
        refine hk4 b (heap_lt e) fun e2 => ?_
        obtain ⟨cur, h3⟩ := (hrow b e2).2.2
        rw [e] at h3
        simp at h3
        rcases hT with hT | hT <;> (rw [hT] at h3; exact absurd h3.2.1 (by decide))
/-- A line that is being made. -/
structure LS (w : World) (L : Nat) (nm : List UInt8) (ms : List IM) (v : Value) : Prop where
  blk : w.heap[L]? = some (.cells #[.string (bs nm), .int .i64 8, v] 33 (0, 0))
  own : w.ownsRow (L + 1) 37 5 v ms.length (ms.flatMap IM.cells)
  num : ∀ m ∈ ms, RdN w (fun j => j < w.heap.size) m.A m.it.ns
theorem it_add {w W3 w4 : World} {L : Nat} {nm : List UInt8} {ms : List IM} {A : Option Addr} {ct : Nat} (h : LS w L nm ms (.slice A ms.length ct)) (m : IM) {x : Obj} {g cap : Nat} (hb : Below w.heap.size w W3) (hgrow : (W3.alloc x).grownBy w4 (Value.slice A ms.length ct).ownBlock)
    (hown : w4.ownsRow (L + 1) 37 5 (.slice (some ⟨g, 0, none⟩) (ms.length + 1) cap) (ms.length + 1) (ms.flatMap IM.cells ++ m.cells)) (hr : RdN W3 (fun j => j < W3.heap.size) m.A m.it.ns) :
    LS (w4.setCell ⟨L, 2, none⟩ (.slice (some ⟨g, 0, none⟩) (ms.length + 1) cap)) L nm (ms ++ [m]) (.slice (some ⟨g, 0, none⟩) (ms.length + 1) cap) ∧ Below L w (w4.setCell ⟨L, 2, none⟩ (.slice (some ⟨g, 0, none⟩) (ms.length + 1) cap)) := by
  have hPl := heap_lt h.blk
  have hrow : ∀ j, (Value.slice A ms.length ct).ownBlock = some j → L < j ∧ j < w.heap.size ∧ ∃ cur, W3.heap[j]? = some (.cells cur 37 (0, 0)) := fun j hj => by
    have h1 := row_base h.own hj
    obtain ⟨cur, h2⟩ := row_type h.own hj
    exact ⟨by omega, h1.2, cur, (hb.block j h1.2).trans h2⟩
  have hP3 : W3.heap[L]? = _ := (hb.block L hPl).trans h.blk
  have hk4 : ∀ j, j < W3.heap.size → (Value.slice A ms.length ct).ownBlock ≠ some j → w4.heap[j]? = W3.heap[j]? := fun j hj hn => ((hgrow.block j (by simp; omega) (Ne.symm hn)).trans (heap_alloc_old W3 _ hj))
  have hz := hgrow.size
  have hz : W3.heap.size + 1 ≤ w4.heap.size := by simpa using hz
  have hg := (row_base hown (k := g) rfl)
  have hbs := hb.size
  have F0 : Fr (fun j => j = L ∨ (Value.slice A ms.length ct).ownBlock = some j) w w4 := ((below_fr hb _).trans (below_fr ((Below.refl _ W3).alloc (Nat.le_refl _) x) _)).trans (Fr.grown hgrow _ fun j hj => .inr hj)
  have F1 := F0.set (.inl (.inl rfl) : (L = L ∨ (Value.slice A ms.length ct).ownBlock = some L) ∨ _) 2 (.slice (some ⟨g, 0, none⟩) (ms.length + 1) cap)
  have hfin : ∀ (b : Nat) (cs : Array Value) (fr : Nat × Nat), W3.heap[b]? = some (.cells cs 2 fr) → (w4.setCell ⟨L, 2, none⟩ (.slice (some ⟨g, 0, none⟩) (ms.length + 1) cap)).heap[b]? = W3.heap[b]? := fun b cs fr e => by
    have hbP : ¬ b = L := by
      rintro rfl
      rw [e] at hP3
      simp at hP3
    rw [show (w4.setCell ⟨L, 2, none⟩ (.slice (some ⟨g, 0, none⟩) (ms.length + 1) cap)).heap[b]? = w4.heap[b]? from Fr.set.heap_set_other (by omega)]
    refine hk4 b (heap_lt e) fun e2 => ?_
    obtain ⟨cur, h3⟩ := (hrow b e2).2.2
    rw [e] at h3
    simp at h3
  have hsz : W3.heap.size ≤ (w4.setCell ⟨L, 2, none⟩ (.slice (some ⟨g, 0, none⟩) (ms.length + 1) cap)).heap.size := by simp [World.setCell]; omega
  refine ⟨⟨?_, ?_, ?_⟩, F1.below (Nat.le_of_lt hPl) fun k hk => hk.elim (fun e => by omega) fun e => by have := (hrow k e).1; omega⟩
  · rw [heap_setCell_same _ _ _ _ _ _ ((hk4 L (by omega) (fun e => by have := (hrow _ e).1; omega)).trans hP3)]; rfl
  · rw [List.length_append, List.flatMap_append]
    simp only [List.length_cons, List.length_nil, List.flatMap_cons, List.flatMap_nil, List.append_nil]
    exact ownsRow_setCell_other (a := ⟨L, 2, none⟩) hown (by simp [Value.ownBlock]; omega) _
  · intro y hy
    rw [List.mem_append] at hy
    rcases hy with hy | hy
    · exact RdN.grow (rdN_below (h.num y hy) hb) hsz hfin
    · simp at hy
      subst hy
      exact RdN.grow hr hsz hfin
end Go.Proofs.YtbapgdhcbfpdoaaGreatDoor
