
/- append onto rows of the call's own: numbers, lists of numbers. -/
import Derived.Deep.AppendLies
import Derived.Test.YtedfjmidcljmoaaArrF
namespace Go.Proofs.Ytedfjmidcljmoaa
open Go.RowKit
set_option linter.unusedVariables false
set_option linter.unusedSimpArgs false
theorem own_shape {w : World} {base size n : Nat} {e : TypeId} {v : Value} {xs : List Value} (h : w.ownsRow base e size v n xs) : ∃ A c, v = .slice A n c ∧ n ≤ c := by
  obtain ⟨_, ⟨rfl, h0⟩ | ⟨g, cap, cur, rfl, _, _, hc, _⟩⟩ := h
  · exact ⟨none, 0, by rw [h0], by omega⟩
  · exact ⟨_, _, rfl, hc⟩
theorem own_cap {w : World} {base size n : Nat} {e : TypeId} {A : Option Addr} {c : Nat} {xs : List Value} (h : w.ownsRow base e size (.slice A n c) n xs) : n ≤ c ∧ c ≤ maxLen := by
  obtain ⟨_, ⟨h1, h0⟩ | ⟨g, cap, cur, h1, _, _, hc, hm, _⟩⟩ := h
  · injection h1 with _ _ h1
    unfold maxLen; omega
  · injection h1 with _ _ h1
    rw [h1]; exact ⟨hc, hm⟩
/-- Another element type: another block. -/
theorem own_type {w : World} {base size n k : Nat} {e : TypeId} {v : Value} {xs : List Value} (h : w.ownsRow base e size v n xs) (hk : v.ownBlock = some k) : ∃ cur, w.heap[k]? = some (.cells cur e (0, 0)) := by
  rcases h.2 with ⟨rfl, _⟩ | ⟨g, cap, cur, rfl, _, hh, _⟩
  · simp [Value.ownBlock] at hk
  · simp [Value.ownBlock] at hk; subst hk; exact ⟨cur, hh⟩
theorem own_apart {w : World} {b1 b2 s1 s2 n1 n2 k : Nat} {e1 e2 : TypeId} {v1 v2 : Value} {x1 x2 : List Value} (h1 : w.ownsRow b1 e1 s1 v1 n1 x1) (h2 : w.ownsRow b2 e2 s2 v2 n2 x2) (hne : e1 ≠ e2) (hk : v1.ownBlock = some k) : v2.ownBlock ≠ some k := fun hk2 => by
  obtain ⟨c1, g1⟩ := own_type h1 hk
  obtain ⟨c2, g2⟩ := own_type h2 hk2
  rw [g1] at g2
  injection g2 with g2
  injection g2 with _ g2
  exact hne g2
/-- A row stays where its block does. -/
theorem own_stays {w w' : World} {base size n : Nat} {e : TypeId} {v : Value} {xs : List Value} (h : w.ownsRow base e size v n xs) (hb : ∀ k, v.ownBlock = some k → w'.heap[k]? = w.heap[k]?) : w'.ownsRow base e size v n xs := by
  obtain ⟨h0, h1 | ⟨g, cap, cur, rfl, hg, hh, h2⟩⟩ := h
  · exact ⟨h0, .inl h1⟩
  · exact ⟨h0, .inr ⟨g, cap, cur, rfl, hg, (hb g rfl).trans hh, h2⟩⟩
theorem own_below {w w' : World} {base size n : Nat} {e : TypeId} {v : Value} {xs : List Value} (h : w.ownsRow base e size v n xs) (hb : Below w.heap.size w w') : w'.ownsRow base e size v n xs :=
  own_stays h fun k hk => hb.block k (h.lt k hk).2
theorem own_le {w : World} {base base' size n : Nat} {e : TypeId} {v : Value} {xs : List Value} (h : w.ownsRow base e size v n xs) (hb : base' ≤ base) : w.ownsRow base' e size v n xs := by
  obtain ⟨h0, h1 | ⟨g, cap, cur, rfl, hg, h2⟩⟩ := h
  · exact ⟨h0, .inl h1⟩
  · exact ⟨h0, .inr ⟨g, cap, cur, rfl, Nat.le_trans hb hg, h2⟩⟩
theorem own_empty {w : World} {B g size : Nat} {e : TypeId} (h : w.heap[g]? = some (.cells #[] e (0, 0))) (hb : B ≤ g) : w.ownsRow B e size (.slice (some ⟨g, 0, none⟩) 0 0) 0 [] :=
  ⟨by simp, .inr ⟨g, 0, #[], rfl, hb, h, Nat.le_refl _, by unfold maxLen; omega, by simp, by simp⟩⟩
/-- Cells that may be read one behind the other. -/
def NewA (w : World) (A : Option Addr) (m : Nat) (news : List Value) : Prop := 0 < m → ∃ b o, A = some ⟨b, o, none⟩ ∧ ∀ (j : Nat) (u : Value), news[j]? = some u → w.cell? ((⟨b, o, none⟩ : Addr).add j) = some u
theorem RdA.news {w : World} {A : Option Addr} {l : List Int} {m : Nat} (h : RdA w A l) (hm : l.length = m) : NewA w A m (l.map fun x => Value.int .i64 x) := fun hl => by
  obtain ⟨b, o, e, _, hc⟩ := h.2 (by omega)
  refine ⟨b, o, e, fun j u hu => ?_⟩
  rw [WideShapes.add_plain]
  rw [List.getElem?_map] at hu
  obtain ⟨y, hy, rfl⟩ := Option.map_eq_some_iff.1 hu
  have hj := (List.getElem?_eq_some_iff.1 hy).1
  rw [ith_get hj] at hy
  injection hy with hy
  rw [hc j hj, hy]
theorem app_zero {w : World} {base : Nat} {e : TypeId} {i : TypeInfo} {size : Nat} (t ty : TypeId) (ht : Try.prog.underlying t = some (.slice e)) (hi : Try.prog.info? e = some i)
    (v : Value) (n : Nat) (xs : List Value) (hown : w.ownsRow base e size v n xs) (A2 : Option Addr) (c : Nat) :
    (Builtin.append_ #[t, t] ty #[v, .slice A2 0 c]).run Try.prog w = .ok v w := by
  rcases hown.2 with ⟨rfl, rfl⟩ | ⟨g, cap, cur, rfl, _, _, hnc, _⟩
  · cases A2 with
    | none => simp [Builtin.append_, run_underlying ht, sizeOf, typeInfo, hi, Builtin.lenOf, Builtin.firstCells]
    | some a => simp [Builtin.append_, run_underlying ht, sizeOf, typeInfo, hi, Builtin.lenOf, Builtin.firstCells, loadCells, loadCellsFrom]
  · cases A2 with
    | none => simp [Builtin.append_, run_underlying ht, sizeOf, typeInfo, hi, Builtin.lenOf, Builtin.firstCells, hnc, storeCells]
    | some a => simp [Builtin.append_, run_underlying ht, sizeOf, typeInfo, hi, Builtin.lenOf, Builtin.firstCells, hnc, storeCells, loadCells, loadCellsFrom]
/-- What is known behind an append onto v. -/
structure App (w : World) (B : Nat) (e : TypeId) (v : Value) (A' : Option Addr) (n c' : Nat) (xs : List Value) (w' : World) : Prop where
  own : w'.ownsRow B e 1 (.slice A' n c') n xs
  keeps : ∀ b, b < w.heap.size → v.ownBlock ≠ some b → w'.heap[b]? = w.heap[b]?
  lies : ∀ g, (Value.slice A' n c').ownBlock = some g → v.ownBlock = some g ∨ w.heap.size ≤ g
  below : Below B w w'
theorem App.below' {w : World} {B B' : Nat} {e : TypeId} {v : Value} {A' : Option Addr} {n c' : Nat} {xs : List Value} {w' : World} (h : App w B e v A' n c' xs w') (hb : ∀ k, v.ownBlock = some k → B' ≤ k) (hB : B' ≤ w.heap.size) : Below B' w w' :=
  ⟨h.below.os, h.below.tape, h.below.output, h.below.size, fun b hb' => h.keeps b (by omega) fun e => by have := hb b e; omega⟩
theorem run_app {w : World} (t ty e : TypeId) (i : TypeInfo) (z : Value) (bytes : Nat) (ht : Try.prog.underlying t = some (.slice e)) (hi : Try.prog.info? e = some i) (hz : i.zero = some z) (hsize : i.size = 1) (hby : i.bytes = bytes) (hzs : z.cells.size = 1)
    (B : Nat) (v : Value) (n : Nat) (xs : List Value) (h : w.ownsRow B e 1 v n xs) (A2 : Option Addr) (m c2 : Nat) (news : List Value) (hn : news.length = m) (hr : NewA w A2 m news) (h1 : ∀ u ∈ news, u.oneCell' = true) (hm : n + m ≤ maxLen) (hbytes : (n + m) * bytes ≤ 140737488355328) (hb : B ≤ w.heap.size) :
    ∃ A' c' w', (Builtin.append_ #[t, t] ty #[v, .slice A2 m c2]).run Try.prog w = .ok (.slice A' (n + m) c') w' ∧ App w B e v A' (n + m) c' (xs ++ news) w' := by
  rcases Nat.eq_zero_or_pos m with h0 | h0
  · subst h0
    obtain rfl : news = [] := List.length_eq_zero_iff.1 hn
    have hrun := app_zero (w := w) t ty ht hi v n _ h A2 c2
    obtain ⟨A, c, rfl, _⟩ := own_shape h
    exact ⟨A, c, w, hrun, by rw [List.append_nil]; exact h, fun _ _ _ => rfl, fun g hg => .inl hg, Below.refl _ _⟩
  · obtain ⟨b, o, rfl, hc⟩ := hr h0
    obtain ⟨g, cap, w', k1, k2, k3, k4, _⟩ := run_append_lies (P := Try.prog) w t ty B e i z 1 bytes ht hi hz hsize hby hzs (by omega) v n xs h ⟨b, o, none⟩ m c2 news (by rw [hn, Nat.mul_one]) hc h1 h0 hm hbytes hb w.heap.size rfl
    refine ⟨some ⟨g, 0, none⟩, cap, w', k1, k2, fun b hb2 hne => k3.block b hb2 (Ne.symm hne), fun g' hg' => ?_, (Below.refl B w).grown k3 hb fun k hk => (h.lt k hk).1⟩
    simp [Value.ownBlock] at hg'
    subst hg'
    rcases k4 with k4 | k4
    · exact .inl k4
    · right; omega
theorem wp_app {w : World} {o : Oper} {a : Act} {K : Act → World → Prop} {Q : Exit → Act → World → Prop} (sl x : Operand) (t : TypeId)
    (ho : o.op = .call { callee := .builtin .append, args := #[sl, x], argTypes := #[t, t] }) (e : TypeId) (i : TypeInfo) (z : Value) (bytes : Nat) (ht : Try.prog.underlying t = some (.slice e)) (hi : Try.prog.info? e = some i) (hz : i.zero = some z) (hsize : i.size = 1) (hby : i.bytes = bytes) (hzs : z.cells.size = 1)
    (B : Nat) (v : Value) (n : Nat) (xs : List Value) (hs : a.eval sl = v) (h : w.ownsRow B e 1 v n xs) (A2 : Option Addr) (m c2 : Nat) (news : List Value) (hx : a.eval x = .slice A2 m c2) (hn : news.length = m) (hr : NewA w A2 m news) (h1 : ∀ u ∈ news, u.oneCell' = true) (hm : n + m ≤ maxLen) (hbytes : (n + m) * bytes ≤ 140737488355328) (hb : B ≤ w.heap.size)
    (hK : ∀ A' c' w', App w B e v A' (n + m) c' (xs ++ news) w' → K (a.put o.dst (.slice A' (n + m) c')) w') : o.wp Try.prog a w K Q := by
  obtain ⟨A', c', w', hrun, h2⟩ := run_app t o.type e i z bytes ht hi hz hsize hby hzs B v n xs h A2 m c2 news hn hr h1 hm hbytes hb
  unfold Oper.wp execOp
  simp only [ho, resolve, invoke, builtin, Sem.run_bind, Sem.run_pure, Result.andThen_ok, List.map_toArray, List.map_cons, List.map_nil, hs, hx, hrun]
  exact hK A' c' w' h2
/-! ### numbers -/
theorem int_one (l : List Int) : ∀ u ∈ l.map (fun x => Value.int .i64 x), u.oneCell' = true := by
  intro u hu
  obtain ⟨x, _, rfl⟩ := List.mem_map.1 hu
  rfl
theorem wpList_app_i {w : World} {ops : Array Oper} {rest : List Oper} {o : Oper} {a : Act} {Q : Exit → Act → World → Prop} (hgd : o.guard = none) (sl x : Operand)
    (ho : o.op = .call { callee := .builtin .append, args := #[sl, x], argTypes := #[22, 22] })
    (B : Nat) (v : Value) (n : Nat) (l : List Int) (hs : a.eval sl = v) (h : w.ownsRow B 2 1 v n (l.map fun x => Value.int .i64 x)) (A2 : Option Addr) (m c2 : Nat) (l2 : List Int) (hx : a.eval x = .slice A2 m c2) (hn : l2.length = m) (hr : RdA w A2 l2) (hm : n + m ≤ 1000000000000) (hb : B ≤ w.heap.size)
    (hK : ∀ A' c' w', Hid (App w B 2 v A' (n + m) c' ((l ++ l2).map fun x => Value.int .i64 x) w') → wpList Try.prog ops Q rest (a.put o.dst (.slice A' (n + m) c')) w') :
    wpList Try.prog ops Q (o :: rest) a w := by
  obtain ⟨i0, hi0, hz0, hz1, hz2⟩ := info_parts intInfo
  refine wpList_plain hgd fun K hK2 => ?_
  refine wp_app sl x _ ho 2 i0 _ 8 Try.underlying22 hi0 hz0 hz1 hz2 rfl B v n _ hs h A2 m c2 _ hx (by rw [List.length_map]; exact hn) (hr.news hn) (int_one l2) (by unfold maxLen; omega) (by omega) hb fun A' c' w' h2 => hK2 _ _ (hK A' c' w' ?_)
  rw [List.map_append]; exact h2
theorem step_app_i {w : World} {ops : Array Oper} {o : Oper} {a : Act} {K : Act → World → Prop} {Q : Exit → Act → World → Prop} {E : Prop} (hgd : o.guard = none) (sl x : Operand)
    (ho : o.op = .call { callee := .builtin .append, args := #[sl, x], argTypes := #[22, 22] })
    (B : Nat) (v : Value) (n : Nat) (l : List Int) (hs : a.eval sl = v) (h : w.ownsRow B 2 1 v n (l.map fun x => Value.int .i64 x)) (A2 : Option Addr) (m c2 : Nat) (l2 : List Int) (hx : a.eval x = .slice A2 m c2) (hn : l2.length = m) (hr : RdA w A2 l2) (hm : n + m ≤ 1000000000000) (hb : B ≤ w.heap.size)
    (hK : ∀ A' c' w', Hid (App w B 2 v A' (n + m) c' ((l ++ l2).map fun x => Value.int .i64 x) w') → K (a.put o.dst (.slice A' (n + m) c')) w') :
    if Region.wanted o (yielded ops a.tmps) = true then Oper.wp Try.prog o a w K Q else E := by
  have hw : Region.wanted o (yielded ops a.tmps) = true := by simp [Region.wanted, hgd]
  rw [if_pos hw]
  obtain ⟨i0, hi0, hz0, hz1, hz2⟩ := info_parts intInfo
  refine wp_app sl x _ ho 2 i0 _ 8 Try.underlying22 hi0 hz0 hz1 hz2 rfl B v n _ hs h A2 m c2 _ hx (by rw [List.length_map]; exact hn) (hr.news hn) (int_one l2) (by unfold maxLen; omega) (by omega) hb fun A' c' w' h2 => hK A' c' w' ?_
  rw [List.map_append]; exact h2
/-- One number more. -/
theorem step_app_1 {w : World} {ops : Array Oper} {o : Oper} {a : Act} {K : Act → World → Prop} {Q : Exit → Act → World → Prop} {E : Prop} (hgd : o.guard = none) (sl x : Operand)
    (ho : o.op = .call { callee := .builtin .append, args := #[sl, x], argTypes := #[22, 22] })
    (B : Nat) (v : Value) (n : Nat) (l : List Int) (hs : a.eval sl = v) (h : w.ownsRow B 2 1 v n (l.map fun x => Value.int .i64 x)) (b c2 : Nat) (y : Int) (hx : a.eval x = .slice (some ⟨b, 0, none⟩) 1 c2) (hr : w.cell? ⟨b, 0, none⟩ = some (.int .i64 y)) (hm : n + 1 ≤ 1000000000000) (hb : B ≤ w.heap.size)
    (hK : ∀ A' c' w', Hid (App w B 2 v A' (n + 1) c' ((l ++ [y]).map fun x => Value.int .i64 x) w') → K (a.put o.dst (.slice A' (n + 1) c')) w') :
    if Region.wanted o (yielded ops a.tmps) = true then Oper.wp Try.prog o a w K Q else E := by
  have hw : Region.wanted o (yielded ops a.tmps) = true := by simp [Region.wanted, hgd]
  rw [if_pos hw]
  obtain ⟨i0, hi0, hz0, hz1, hz2⟩ := info_parts intInfo
  refine wp_app sl x _ ho 2 i0 _ 8 Try.underlying22 hi0 hz0 hz1 hz2 rfl B v n _ hs h (some ⟨b, 0, none⟩) 1 c2 [.int .i64 y] hx rfl (fun _ => ⟨b, 0, rfl, fun j u hu => ?_⟩) (fun u hu => ?_) (by unfold maxLen; omega) (by omega) hb fun A' c' w' h2 => hK A' c' w' ?_
  · rw [WideShapes.add_plain]
    match j with
    | 0 => simp at hu; rw [← hu]; exact hr
    | j + 1 => simp at hu
  · simp at hu; rw [hu]; rfl
  · rw [List.map_append]; exact h2
/-! ### lists of numbers -/
theorem listInfo : (Try.prog.info? 22).map (fun i => (i.zero, i.size, i.bytes)) = some (some (.slice none 0 0), 1, 24) := by kernel_rfl
theorem wpList_app_l {w : World} {ops : Array Oper} {rest : List Oper} {o : Oper} {a : Act} {Q : Exit → Act → World → Prop} (hgd : o.guard = none) (sl x : Operand)
    (ho : o.op = .call { callee := .builtin .append, args := #[sl, x], argTypes := #[38, 38] })
    (B : Nat) (v : Value) (n : Nat) (cs : List Value) (hs : a.eval sl = v) (h : w.ownsRow B 22 1 v n cs) (b c2 : Nat) (Y : Option Addr) (m d : Nat) (hx : a.eval x = .slice (some ⟨b, 0, none⟩) 1 c2) (hr : w.cell? ⟨b, 0, none⟩ = some (.slice Y m d)) (hm : n + 1 ≤ 1000000000000) (hb : B ≤ w.heap.size)
    (hK : ∀ A' c' w', Hid (App w B 22 v A' (n + 1) c' (cs ++ [.slice Y m d]) w') → wpList Try.prog ops Q rest (a.put o.dst (.slice A' (n + 1) c')) w') :
    wpList Try.prog ops Q (o :: rest) a w := by
  obtain ⟨i0, hi0, hz0, hz1, hz2⟩ := info_parts listInfo
  refine wpList_plain hgd fun K hK2 => ?_
  refine wp_app sl x _ ho 22 i0 _ 24 Try.underlying38 hi0 hz0 hz1 hz2 rfl B v n cs hs h (some ⟨b, 0, none⟩) 1 c2 [.slice Y m d] hx rfl (fun _ => ⟨b, 0, rfl, fun j u hu => ?_⟩) (fun u hu => ?_) (by unfold maxLen; omega) (by omega) hb fun A' c' w' h2 => hK2 _ _ (hK A' c' w' h2)
  · rw [WideShapes.add_plain]
    match j with
    | 0 => simp at hu; rw [← hu]; exact hr
    | j + 1 => simp at hu
  · simp at hu; rw [hu]; rfl
end Go.Proofs.Ytedfjmidcljmoaa
