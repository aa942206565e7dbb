/- Layer 4, put together: ParZk, ParZl. -/
import Derived.Test.YthdognmppbckbaaDoorZPv
import Derived.BigRegion
/- The document's input: its contract; a program that grows beside the reader. -/
namespace Go.Proofs.YthdognmppbckbaaDoor
open Go.RowKit
set_option linter.unusedVariables false
theorem input04_any (w : World) (R g n c : Nat) (I0 : Nat) (T : List Tk) (E : Int) (h : RZ w R g T n c I0 E (0 : Nat) 0 0) (hlg : g < w.heap.size) (hn7 : n ≤ 1000000) (hT : LT T) (hkk : ∀ t ∈ T, t.k = 1 ∨ t.k = 2 ∨ t.k = 3) : Calls Tryd.prog 49 #[.pointer (some ⟨R, 0, none⟩)] w (InAns w R g T n c E (inT T E)) := by
  have hnn := h.hn
  by_cases hn1 : 1 < n
  · have hm := getD_mem (T := T) (I := 1) (by omega)
    by_cases hk1 : (T.getD 1 default).k = 1
    · cases hnb : nameB (T.getD 1 default).w with
      | true => exact in_c w R g n c I0 T E h hlg hn7 hT hkk hn1 hk1 hnb
      | false =>
        have e : inT T E = .inl ((T.getD 1 default).a, 41) := by unfold inT; rw [if_pos (by omega), if_pos hnb]
        rw [e]
        exact in_b2 w R g n c I0 T E h hlg hn7 hT hkk hn1 hk1 hnb
    · have hnb : nameB (T.getD 1 default).w = false := by
        cases e : nameB (T.getD 1 default).w with
        | false => rfl
        | true => exact (hk1 (hT.name hm e)).elim
      have e : inT T E = .inl ((T.getD 1 default).a, 41) := by unfold inT; rw [if_pos (by omega), if_pos hnb]
      rw [e]
      exact in_b1 w R g n c I0 T E h hlg hn7 hT hkk hn1 hk1
  · have e : inT T E = .inl (E, 42) := by unfold inT; rw [if_neg (by omega)]
    rw [e]
    exact in_a w R g n c I0 T E h hlg hn7 hT hkk hn1
/-- What the type of a block tells: it is another one. -/
theorem ty_ne {w : World} {a b : Nat} {cs cs' : Array Value} {T T' : TypeId} {fr fr' : Nat × Nat} (h : w.heap[a]? = some (.cells cs T fr)) (g : w.heap[b]? = some (.cells cs' T' fr')) (hne : T ≠ T') : a ≠ b := by
  rintro rfl
  rw [h] at g
  simp at g
  exact hne g.2.1
theorem PS.onR {w w' : World} {P R : Nat} {xs : List NM} {ls : List LM} {vi vl : Value} {cs : Array Value} {fr : Nat × Nat} (h : PS w P xs ls vi vl) (F : Fr (fun k => k = R) w w') (hR : w.heap[R]? = some (.cells cs 70 fr)) : PS w' P xs ls vi vl := by
  have hk : ∀ (b : Nat) (cs' : Array Value) (T : TypeId) (fr' : Nat × Nat), w.heap[b]? = some (.cells cs' T fr') → T ≠ 70 → w'.heap[b]? = w.heap[b]? := fun b cs' T fr' hb hT => F.block b (heap_lt hb) (ty_ne hb hR hT)
  refine ⟨(hk _ _ _ _ h.blk (by decide)).trans h.blk, row_keep h.owi (fun k hj _ => ?_) (Nat.le_refl _), row_keep h.owl (fun k hj _ => ?_) (Nat.le_refl _), fun m hm => ⟨RdI.grow (h.its m hm).1 F.size fun b cs' T fr' hb hT => hk b cs' T fr' hb (by rcases hT with rfl | rfl <;> decide), (h.its m hm).2⟩, fun m hm => ⟨RdS.grow (h.sds m hm).1 F.size fun b cs' fr' hb => hk b cs' _ fr' hb (by decide), (h.sds m hm).2⟩⟩
  · obtain ⟨cur, e⟩ := row_type h.owi hj; exact hk _ _ _ _ e (by decide)
  · obtain ⟨cur, e⟩ := row_type h.owl hj; exact hk _ _ _ _ e (by decide)
/-- The reader's block is none of the program's. -/
theorem PS.notR {w : World} {P R : Nat} {xs : List NM} {ls : List LM} {vi vl : Value} {cs : Array Value} {fr : Nat × Nat} (h : PS w P xs ls vi vl) (hR : w.heap[R]? = some (.cells cs 70 fr)) : ¬ PM P vi vl R := fun hk => by
  obtain ⟨cs', T, h1, h2⟩ := h.types R hk
  rw [hR] at h1
  simp at h1
  rw [← h1.2.1] at h2
  unfold PT at h2
  revert h2; decide
theorem PS.addIn {w wm w4 : World} {P : Nat} {xs : List NM} {ls : List LM} {vl : Value} {A : Option Addr} {ct : Nat} (h : PS w P xs ls (.slice A xs.length ct) vl) (m : NM) {g cap : Nat} (hb : Below w.heap.size w wm) (hgrow : wm.grownBy w4 (Value.slice A xs.length ct).ownBlock)
    (hown : w4.ownsRow (P + 1) 44 3 (.slice (some ⟨g, 0, none⟩) (xs.length + 1) cap) (xs.length + 1) (xs.flatMap NM.cells ++ m.cells)) (hr : RdS w m.A m.inp.sd) (hc : m.inp.sd.length ≤ m.c) :
    PS (w4.setCell ⟨P, 0, none⟩ (.slice (some ⟨g, 0, none⟩) (xs.length + 1) cap)) P (xs ++ [m]) ls (.slice (some ⟨g, 0, none⟩) (xs.length + 1) cap) vl ∧
    Fr (PM P (.slice A xs.length ct) vl) w (w4.setCell ⟨P, 0, none⟩ (.slice (some ⟨g, 0, none⟩) (xs.length + 1) cap)) := by
  have hPl := h.lt
  have hbs := hb.size
  have hrow : ∀ j, (Value.slice A xs.length ct).ownBlock = some j → P < j ∧ j < w.heap.size ∧ ∃ cur, w.heap[j]? = some (.cells cur 44 (0, 0)) := fun j hj => by
    have h1 := row_base h.owi hj
    obtain ⟨cur, h2⟩ := row_type h.owi hj
    exact ⟨by omega, h1.2, cur, h2⟩
  have hk4 : ∀ j, j < w.heap.size → (Value.slice A xs.length ct).ownBlock ≠ some j → w4.heap[j]? = w.heap[j]? := fun j hj hn => (hgrow.block j (by omega) (Ne.symm hn)).trans (hb.block j hj)
  have hP4 := (hk4 P hPl (fun e => by have := (hrow _ e).1; omega)).trans h.blk
  have F : Fr (PM P (.slice A xs.length ct) vl) w (w4.setCell ⟨P, 0, none⟩ (.slice (some ⟨g, 0, none⟩) (xs.length + 1) cap)) := ((below_fr hb _).trans (Fr.grown hgrow _ fun j hj => .inr (.inl hj))).set (.inl (.inl rfl)) 0 _
  refine ⟨h.next F (by rw [heap_setCell_same _ _ _ _ _ _ hP4]; rfl) ?_ ?_ (fun _ hm => .inl hm) fun y hy => ?_, F⟩
  · rw [List.length_append, List.flatMap_append]
    simp only [List.length_cons, List.length_nil, List.flatMap_cons, List.flatMap_nil, List.append_nil]
    exact row_keep hown (fun j hj _ => Fr.set.heap_set_other (by have := (row_base hown hj).1; omega)) (Nat.le_refl _)
  · refine row_keep h.owl (fun j hj hl => ?_) (Nat.le_refl _)
    have h1 := (row_base h.owl hj).1
    rw [Fr.set.heap_set_other (by omega)]
    exact hk4 j hl (fun e => rows_ne h.owi h.owl (by decide) e hj)
  · rcases List.mem_append.1 hy with hy | hy
    · exact .inl hy
    · simp at hy
      subst hy
      refine .inr ⟨hr.grow F.size fun b cs fr hbb => F.block b (heap_lt hbb) fun hpm => ?_, hc⟩
      obtain ⟨cs', T, h1, h2⟩ := h.types b hpm
      rw [hbb] at h1
      simp at h1
      rw [← h1.2.1] at h2
      exact pt_no (.inr (.inr (.inl rfl))) h2
theorem PS.addLn {w wm w4 : World} {P : Nat} {xs : List NM} {ls : List LM} {vi : Value} {A : Option Addr} {ct : Nat} (h : PS w P xs ls vi (.slice A ls.length ct)) (m : LM) {g cap : Nat} (hb : Below w.heap.size w wm) (hgrow : wm.grownBy w4 (Value.slice A ls.length ct).ownBlock)
    (hown : w4.ownsRow (P + 1) 41 3 (.slice (some ⟨g, 0, none⟩) (ls.length + 1) cap) (ls.length + 1) (ls.flatMap LM.cells ++ m.cells)) (hr : RdIt w m.A m.ln.its) (hc : m.ln.its.length ≤ m.c) :
    PS (w4.setCell ⟨P, 1, none⟩ (.slice (some ⟨g, 0, none⟩) (ls.length + 1) cap)) P xs (ls ++ [m]) vi (.slice (some ⟨g, 0, none⟩) (ls.length + 1) cap) ∧
    Fr (PM P vi (.slice A ls.length ct)) w (w4.setCell ⟨P, 1, none⟩ (.slice (some ⟨g, 0, none⟩) (ls.length + 1) cap)) := by
  have hPl := h.lt
  have hbs := hb.size
  have hrow : ∀ j, (Value.slice A ls.length ct).ownBlock = some j → P < j ∧ j < w.heap.size ∧ ∃ cur, w.heap[j]? = some (.cells cur 41 (0, 0)) := fun j hj => by
    have h1 := row_base h.owl hj
    obtain ⟨cur, h2⟩ := row_type h.owl hj
    exact ⟨by omega, h1.2, cur, h2⟩
  have hk4 : ∀ j, j < w.heap.size → (Value.slice A ls.length ct).ownBlock ≠ some j → w4.heap[j]? = w.heap[j]? := fun j hj hn => (hgrow.block j (by omega) (Ne.symm hn)).trans (hb.block j hj)
  have hP4 := (hk4 P hPl (fun e => by have := (hrow _ e).1; omega)).trans h.blk
  have F : Fr (PM P vi (.slice A ls.length ct)) w (w4.setCell ⟨P, 1, none⟩ (.slice (some ⟨g, 0, none⟩) (ls.length + 1) cap)) := ((below_fr hb _).trans (Fr.grown hgrow _ fun j hj => .inr (.inr hj))).set (.inl (.inl rfl)) 1 _
  refine ⟨h.next F (by rw [heap_setCell_same _ _ _ _ _ _ hP4]; rfl) ?_ ?_ (fun y hy => ?_) (fun _ hm => .inl hm), F⟩
  · refine row_keep h.owi (fun j hj hl => ?_) (Nat.le_refl _)
    have h1 := (row_base h.owi hj).1
    rw [Fr.set.heap_set_other (by omega)]
    exact hk4 j hl (fun e => rows_ne h.owl h.owi (by decide) e hj)
  · rw [List.length_append, List.flatMap_append]
    simp only [List.length_cons, List.length_nil, List.flatMap_cons, List.flatMap_nil, List.append_nil]
    exact row_keep hown (fun j hj _ => Fr.set.heap_set_other (by have := (row_base hown hj).1; omega)) (Nat.le_refl _)
  · rcases List.mem_append.1 hy with hy | hy
    · exact .inl hy
    · simp at hy
      subst hy
      refine .inr ⟨hr.grow F.size fun b cs T fr hbb hT => F.block b (heap_lt hbb) fun hpm => ?_, hc⟩
      obtain ⟨cs', T', h1, h2⟩ := h.types b hpm
      rw [hbb] at h1
      simp at h1
      rw [← h1.2.1] at h2
      exact pt_no (hT.elim .inl fun e => .inr (.inl e)) h2
/-! ### a line, the document's way -/
/-- What line answers. -/
def LnAns (w : World) (R g : Nat) (T : List Tk) (n c : Nat) (E : Int) (P : Nat) (xs : List NM) (ls : List LM) (vi vl : Value) (x : Pr) (e : Ending) (w' : World) : Prop :=
  e = .returned (.tuple #[]) ∧ Fr (fun k => k = R ∨ PM P vi vl k) w w' ∧ ∃ (I' : Nat) (fa fc : Int), w'.heap[R]? = some (.cells #[.slice (some ⟨g, 0, none⟩) n c, .int .i64 I', .int .i64 E, .int .i64 0, .int .i64 fa, .int .i64 fc] 70 (0, 0)) ∧ match x with
    | .err a e => fa = a ∧ fc = e ∧ (e != 0) = true
    | .ok q => fa = 0 ∧ fc = 0 ∧ ∃ xs' ls' vi' vl', PS w' P xs' ls' vi' vl' ∧ pgOf xs' ls' = q ∧ NR w.heap.size vi vi' ∧ NR w.heap.size vl vl' ∧ xs'.length + ls'.length = xs.length + ls.length + 1
theorem LnAns.fr {w w' : World} {R : Nat} {S : Nat → Prop} (h : Fr (fun k => k = R) w w') : Fr (fun k => k = R ∨ S k) w w' := h.weak fun _ _ e => .inl e
theorem addR_tl {T : List Tk} {E : Int} {n : Nat} {p : Pg} (hn : T.length = n) (hT : LT T) (h1 : 0 < n) : addR p (tl T E 0) = if p.ins.length + p.lns.length = 64 then .err (T.getD 0 default).a 45
    else if 256 < n then .err (T.getD 256 default).a 45
    else if compl p then .err (T.getD 0 default).a 40
    else if (T.getD 0 default).w = [105, 110] then addInR p (T.getD 0 default) (tl T E 1)
    else if (T.getD 0 default).w = [111, 117, 116] then addLnR p [] (T.getD 0 default).a (tl T E 1)
    else if nameB (T.getD 0 default).w = false then .err (T.getD 0 default).a 40
    else if ((tl T E 1).getD 0 default).w ≠ [58] then .err ((tl T E 1).getD 0 default).a 42
    else addLnR p (T.getD 0 default).w (T.getD 0 default).a ((tl T E 1).drop 1) := by
  rw [tl_cons (by omega)]
  have hl : (tl T E (0 + 1)).length = n := by rw [tl_len]; omega
  unfold addR
  simp only
  rw [if_neg (hT.k4 _ (getD_mem (by omega))), hl]
  by_cases h2 : 256 < n
  · have e : (T.getD 0 default :: tl T E (0 + 1)).getD 256 default = T.getD 256 default := by
      rw [← tl_cons (by omega)]
      unfold tl
      rw [List.drop_zero, List.getD_eq_getElem?_getD, List.getElem?_append_left (by omega), List.getD_eq_getElem?_getD]
    rw [e]
  · rw [if_neg h2, if_neg h2]
theorem tl_head {T : List Tk} {E : Int} {I : Nat} (h : I < T.length) : (tl T E I).getD 0 default = T.getD I default := by rw [tl_cons h]; rfl
theorem tl_last {T : List Tk} {E : Int} {I : Nat} (h : T.length ≤ I) : (tl T E I).getD 0 default = ⟨4, E, [], 0⟩ := by rw [tl_end h]; rfl
theorem tl_drop {T : List Tk} {E : Int} {I : Nat} (h : I < T.length) : (tl T E I).drop 1 = tl T E (I + 1) := by rw [tl_cons h]; rfl
def inPr (p : Pg) : Int × Int ⊕ Inp → Pr
  | .inl y => .err y.1 y.2
  | .inr y => .ok ⟨p.ins ++ [y], p.lns⟩
theorem addIn_eq {T : List Tk} {E : Int} {p : Pg} {f : Tk} (hT : LT T) (hp : ¬ 0 < p.lns.length) : addInR p f (tl T E 1) = inPr p (inT T E) := by
  unfold addInR inT
  rw [if_neg hp]
  by_cases h1 : 1 < T.length
  · rw [if_pos h1, tl_cons h1]
    simp only
    rw [if_neg (hT.k4 _ (getD_mem h1))]
    by_cases h2 : nameB (T.getD 1 default).w = false
    · rw [if_pos h2, if_pos h2]; rfl
    · rw [if_neg h2, if_neg h2]
      have e : (tl T E (1 + 1)).dropLast = T.drop 2 := by unfold tl; rw [List.dropLast_append_of_ne_nil (by simp)]; simp
      rw [e]
      cases sidesR (T.drop 2) [] <;> rfl
  · rw [if_neg h1, tl_end (by omega)]
    rfl
end Go.Proofs.YthdognmppbckbaaDoor
/- The document's line. Written by gen_zl.py. -/
namespace Go.Proofs.YthdognmppbckbaaDoor
open Go.RowKit
set_option linter.unusedVariables false
/-- Within line: the token's block, and what else is at hand. -/
structure LJ (w wx : World) (R g : Nat) (T : List Tk) (n c K : Nat) (E fa fc : Int) (t : Tk) (P : Nat) (xs : List NM) (ls : List LM) (vi vl : Value) : Prop where
  rz : RZ wx R g T n c K E (0 : Nat) fa fc
  fr : Fr (fun k => k = R) w wx
  tb : wx.heap[w.heap.size]? = some (.cells #[.int .i64 t.k, .int .i64 t.a, .string (bs t.w), .int .i64 t.n] 61 (0, 0))
  ps : PS wx P xs ls vi vl
  lt : R < w.heap.size
theorem LJ.keep {w wx wy : World} {R g : Nat} {T : List Tk} {n c K : Nat} {E fa fc : Int} {t : Tk} {P : Nat} {xs : List NM} {ls : List LM} {vi vl : Value} (h : LJ w wx R g T n c K E fa fc t P xs ls vi vl) (hb : Below wx.heap.size wx wy) : LJ w wy R g T n c K E fa fc t P xs ls vi vl :=
  ⟨h.rz.keep hb, h.fr.trans (below_fr hb _), (hb.block _ (heap_lt h.tb)).trans h.tb, h.ps.keep hb, h.lt⟩
theorem LJ.fz {w wx wy : World} {R g : Nat} {T : List Tk} {n c K K' : Nat} {E fa fc fa' fc' : Int} {t : Tk} {P : Nat} {xs : List NM} {ls : List LM} {vi vl : Value} (h : LJ w wx R g T n c K E fa fc t P xs ls vi vl) (hz : RZ wy R g T n c K' E (0 : Nat) fa' fc') (F : Fr (fun k => k = R) wx wy) : LJ w wy R g T n c K' E fa' fc' t P xs ls vi vl := by
  have hR := h.lt
  exact ⟨hz, h.fr.trans F, (F.block _ (heap_lt h.tb) (by omega)).trans h.tb, h.ps.onR F h.rz.blk, h.lt⟩
theorem LJ.cells {w wx : World} {R g : Nat} {T : List Tk} {n c K : Nat} {E fa fc : Int} {t : Tk} {P : Nat} {xs : List NM} {ls : List LM} {vi vl : Value} (h : LJ w wx R g T n c K E fa fc t P xs ls vi vl) : wx.cell? ⟨w.heap.size, 0, none⟩ = some (.int .i64 t.k) ∧ wx.cell? ⟨w.heap.size, 1, none⟩ = some (.int .i64 t.a) ∧ wx.cell? ⟨w.heap.size, 2, none⟩ = some (.string (bs t.w)) := by
  refine ⟨?_, ?_, ?_⟩ <;> · rw [cell_of_row _ _ _ _ _ _ h.tb]; rfl
theorem LJ.bad {w wx : World} {R g : Nat} {T : List Tk} {n c K : Nat} {E a e : Int} {t : Tk} {P : Nat} {xs : List NM} {ls : List LM} {vi vl : Value} (h : LJ w wx R g T n c K E a e t P xs ls vi vl) (he : (e != 0) = true) : LnAns w R g T n c E P xs ls vi vl (.err a e) (.returned (.tuple #[])) wx :=
  ⟨rfl, LnAns.fr h.fr, K, a, e, h.rz.blk, rfl, rfl, he⟩
set_option maxRecDepth 100000 in
set_option maxHeartbeats 3200000 in
theorem line_a (w : World) (R g n c : Nat) (T : List Tk) (E : Int) (h : RZ w R g T n c 0 E (0 : Nat) 0 0) (hlg : g < w.heap.size) (hn1 : 0 < n) (hn7 : n ≤ 1000000) (hT : LT T) (P : Nat) (xs : List NM) (ls : List LM) (vi vl : Value) (hP : PS w P xs ls vi vl) (cnt : Nat) (ov : Bool) (hc64 : decide ((64 : Int) ≤ (cnt : Int)) = true) : Calls Tryd.prog 31 #[.pointer (some ⟨R, 0, none⟩), .pointer (some ⟨P, 0, none⟩), .int .i64 cnt, .bool ov] w (LnAns w R g T n c E P xs ls vi vl (.err (T.getD 0 default).a 45)) := by
  have hRl := h.lt
  have hnn := h.hn
  obtain ⟨t, ht⟩ : ∃ t, t = T.getD 0 default := ⟨_, rfl⟩
  have HTT := Lib.hid ht
  have HLG := Lib.hid hlg
  obtain ⟨c0, -, -, -, -, -⟩ := h.c0
  obtain ⟨k0, k1, k2, k3⟩ := h.tok 0 hn1
  rw [← ht] at k0 k1 k2 k3
  replace k0 : w.cell? ⟨g, 0, none⟩ = some (.int .i64 t.k) := by rw [Nat.zero_mul] at k0; exact k0
  replace k1 : w.cell? ⟨g, 1, none⟩ = some (.int .i64 t.a) := by rw [Nat.zero_mul, Nat.zero_add] at k1; exact k1
  replace k2 : w.cell? ⟨g, 2, none⟩ = some (.string (bs t.w)) := by rw [Nat.zero_mul, Nat.zero_add] at k2; exact k2
  replace k3 : w.cell? ⟨g, 3, none⟩ = some (.int .i64 t.n) := by rw [Nat.zero_mul, Nat.zero_add] at k3; exact k3
  have q0 : ∀ W : World, (Instr.indexAt 57 (.slice (some ⟨g, 0, none⟩) n c) (.int .i64 0)).run Tryd.prog W = .ok (.pointer (some ⟨g, 0, none⟩)) W := fun W => by
    have := idxTo g n c 0 hn1 W
    rw [Nat.zero_mul] at this
    exact this
  have J1 := Lib.hid (show LJ w (w.alloc (.cells #[.int .i64 t.k, .int .i64 t.a, .string (bs t.w), .int .i64 t.n] 61)) R g T n c 0 E 0 0 t P xs ls vi vl from ⟨h.up _, (Fr.refl _ _).alloc _, heap_alloc_new w _, hP.keep (up _), hRl⟩)
  obtain ⟨w1, hw1⟩ : ∃ w1, w1 = w.alloc (.cells #[.int .i64 t.k, .int .i64 t.a, .string (bs t.w), .int .i64 t.n] 61) := ⟨_, rfl⟩
  rw [← hw1] at J1
  have HW1 := Lib.hid hw1
  have hgl := h.lg
  have HPN := Lib.hid (show placeR T 0 E = t.a by rw [ht]; unfold placeR; rw [if_pos (by omega)])
  rw [← ht]
  clear h hP hlg hT ht hw1
  go_enter Tryd.func31, Tryd.ntmps31
  go_wp2_with fail
  rw [← HW1.out]
  refine (no_any _ R g n c 0 T E (0 : Nat) 0 0 45 J1.out.rz).mono ?_
  rintro e w9 ⟨rfl, z9, f9⟩
  rw [HPN.out] at z9
  have J9 := Lib.hid (J1.out.fz z9 f9)
  clear z9 f9
  go_wp2
  refine bodyPost_ret (v := .tuple #[]) (by simp [results, Tryd.results31, go_sem]) rfl ?_
  exact J9.out.bad rfl
set_option maxRecDepth 100000 in
set_option maxHeartbeats 3200000 in
theorem line_b (w : World) (R g n c : Nat) (T : List Tk) (E : Int) (h : RZ w R g T n c 0 E (0 : Nat) 0 0) (hlg : g < w.heap.size) (hn1 : 0 < n) (hn7 : n ≤ 1000000) (hT : LT T) (P : Nat) (xs : List NM) (ls : List LM) (vi vl : Value) (hP : PS w P xs ls vi vl) (cnt : Nat) (ov : Bool) (hc64 : decide ((64 : Int) ≤ (cnt : Int)) = false) (hc256 : decide ((256 : Int) < (n : Int)) = true) (hn256 : 256 < n) : Calls Tryd.prog 31 #[.pointer (some ⟨R, 0, none⟩), .pointer (some ⟨P, 0, none⟩), .int .i64 cnt, .bool ov] w (LnAns w R g T n c E P xs ls vi vl (.err (T.getD 256 default).a 45)) := by
  have hRl := h.lt
  have hnn := h.hn
  obtain ⟨t, ht⟩ : ∃ t, t = T.getD 0 default := ⟨_, rfl⟩
  have HTT := Lib.hid ht
  have HLG := Lib.hid hlg
  obtain ⟨c0, -, -, -, -, -⟩ := h.c0
  obtain ⟨k0, k1, k2, k3⟩ := h.tok 0 hn1
  rw [← ht] at k0 k1 k2 k3
  replace k0 : w.cell? ⟨g, 0, none⟩ = some (.int .i64 t.k) := by rw [Nat.zero_mul] at k0; exact k0
  replace k1 : w.cell? ⟨g, 1, none⟩ = some (.int .i64 t.a) := by rw [Nat.zero_mul, Nat.zero_add] at k1; exact k1
  replace k2 : w.cell? ⟨g, 2, none⟩ = some (.string (bs t.w)) := by rw [Nat.zero_mul, Nat.zero_add] at k2; exact k2
  replace k3 : w.cell? ⟨g, 3, none⟩ = some (.int .i64 t.n) := by rw [Nat.zero_mul, Nat.zero_add] at k3; exact k3
  have q0 : ∀ W : World, (Instr.indexAt 57 (.slice (some ⟨g, 0, none⟩) n c) (.int .i64 0)).run Tryd.prog W = .ok (.pointer (some ⟨g, 0, none⟩)) W := fun W => by
    have := idxTo g n c 0 hn1 W
    rw [Nat.zero_mul] at this
    exact this
  have J1 := Lib.hid (show LJ w (w.alloc (.cells #[.int .i64 t.k, .int .i64 t.a, .string (bs t.w), .int .i64 t.n] 61)) R g T n c 0 E 0 0 t P xs ls vi vl from ⟨h.up _, (Fr.refl _ _).alloc _, heap_alloc_new w _, hP.keep (up _), hRl⟩)
  obtain ⟨w1, hw1⟩ : ∃ w1, w1 = w.alloc (.cells #[.int .i64 t.k, .int .i64 t.a, .string (bs t.w), .int .i64 t.n] 61) := ⟨_, rfl⟩
  rw [← hw1] at J1
  have HW1 := Lib.hid hw1
  have hgl := h.lg
  obtain ⟨pa, hpa⟩ : ∃ pa, pa = (T.getD 256 default).a := ⟨_, rfl⟩
  have HPN := Lib.hid (show placeR T 256 E = pa by rw [hpa]; unfold placeR; rw [if_pos (by omega)])
  rw [← hpa]
  have HWS := Lib.hid (show w1.heap.size = w.heap.size + 1 by rw [hw1]; simp)
  obtain ⟨-, d1, -, -, -, -⟩ := h.c0
  have f1 := frozen_of_row _ _ 1 _ _ h.blk
  have HP0 := Lib.hid (show PS ((w.setCell ⟨R, 1, none⟩ (.int .i64 256)).alloc (.cells #[.int .i64 t.k, .int .i64 t.a, .string (bs t.w), .int .i64 t.n] 61)) P xs ls vi vl from (hP.onR ((Fr.refl _ _).setR 1 _) h.blk).keep (up _))
  have HZ := Lib.hid (show RZ ((w.setCell ⟨R, 1, none⟩ (.int .i64 256)).alloc (.cells #[.int .i64 t.k, .int .i64 t.a, .string (bs t.w), .int .i64 t.n] 61)) R g T n c 256 E (0 : Nat) 0 0 from (h.setI 256 256 rfl).up _)
  clear h hP hlg hT ht hw1 hpa
  go_enter Tryd.func31, Tryd.ntmps31
  go_wp2_with fail
  have J2 := Lib.hid (show LJ w ((w.setCell ⟨R, 1, none⟩ (.int .i64 256)).alloc (.cells #[.int .i64 t.k, .int .i64 t.a, .string (bs t.w), .int .i64 t.n] 61)) R g T n c 256 E 0 0 t P xs ls vi vl from ⟨HZ.out, ((Fr.refl _ _).setR 1 _).alloc _, by have := heap_alloc_new (w.setCell ⟨R, 1, none⟩ (.int .i64 256)) (.cells #[.int .i64 t.k, .int .i64 t.a, .string (bs t.w), .int .i64 t.n] 61); rw [show (w.setCell ⟨R, 1, none⟩ (.int .i64 256)).heap.size = w.heap.size by simp] at this; exact this, HP0.out, hRl⟩)
  refine (no_any _ R g n c 256 T E (0 : Nat) 0 0 45 J2.out.rz).mono ?_
  rintro e w9 ⟨rfl, z9, f9⟩
  rw [HPN.out] at z9
  have J9 := Lib.hid (J2.out.fz z9 f9)
  clear z9 f9
  go_wp2
  refine bodyPost_ret (v := .tuple #[]) (by simp [results, Tryd.results31, go_sem]) rfl ?_
  exact J9.out.bad rfl
set_option maxRecDepth 100000 in
set_option maxHeartbeats 3200000 in
theorem line_c (w : World) (R g n c : Nat) (T : List Tk) (E : Int) (h : RZ w R g T n c 0 E (0 : Nat) 0 0) (hlg : g < w.heap.size) (hn1 : 0 < n) (hn7 : n ≤ 1000000) (hT : LT T) (P : Nat) (xs : List NM) (ls : List LM) (vi vl : Value) (hP : PS w P xs ls vi vl) (cnt : Nat) (ov : Bool) (hc64 : decide ((64 : Int) ≤ (cnt : Int)) = false) (hc256 : decide ((256 : Int) < (n : Int)) = false) (hov : ov = true) : Calls Tryd.prog 31 #[.pointer (some ⟨R, 0, none⟩), .pointer (some ⟨P, 0, none⟩), .int .i64 cnt, .bool ov] w (LnAns w R g T n c E P xs ls vi vl (.err (T.getD 0 default).a 40)) := by
  have hRl := h.lt
  have hnn := h.hn
  obtain ⟨t, ht⟩ : ∃ t, t = T.getD 0 default := ⟨_, rfl⟩
  have HTT := Lib.hid ht
  have HLG := Lib.hid hlg
  obtain ⟨c0, -, -, -, -, -⟩ := h.c0
  obtain ⟨k0, k1, k2, k3⟩ := h.tok 0 hn1
  rw [← ht] at k0 k1 k2 k3
  replace k0 : w.cell? ⟨g, 0, none⟩ = some (.int .i64 t.k) := by rw [Nat.zero_mul] at k0; exact k0
  replace k1 : w.cell? ⟨g, 1, none⟩ = some (.int .i64 t.a) := by rw [Nat.zero_mul, Nat.zero_add] at k1; exact k1
  replace k2 : w.cell? ⟨g, 2, none⟩ = some (.string (bs t.w)) := by rw [Nat.zero_mul, Nat.zero_add] at k2; exact k2
  replace k3 : w.cell? ⟨g, 3, none⟩ = some (.int .i64 t.n) := by rw [Nat.zero_mul, Nat.zero_add] at k3; exact k3
  have q0 : ∀ W : World, (Instr.indexAt 57 (.slice (some ⟨g, 0, none⟩) n c) (.int .i64 0)).run Tryd.prog W = .ok (.pointer (some ⟨g, 0, none⟩)) W := fun W => by
    have := idxTo g n c 0 hn1 W
    rw [Nat.zero_mul] at this
    exact this
  have J1 := Lib.hid (show LJ w (w.alloc (.cells #[.int .i64 t.k, .int .i64 t.a, .string (bs t.w), .int .i64 t.n] 61)) R g T n c 0 E 0 0 t P xs ls vi vl from ⟨h.up _, (Fr.refl _ _).alloc _, heap_alloc_new w _, hP.keep (up _), hRl⟩)
  obtain ⟨w1, hw1⟩ : ∃ w1, w1 = w.alloc (.cells #[.int .i64 t.k, .int .i64 t.a, .string (bs t.w), .int .i64 t.n] 61) := ⟨_, rfl⟩
  rw [← hw1] at J1
  have HW1 := Lib.hid hw1
  have hgl := h.lg
  have HPN := Lib.hid (show placeR T 0 E = t.a by rw [ht]; unfold placeR; rw [if_pos (by omega)])
  rw [← ht]
  subst hov
  clear h hP hlg hT ht hw1
  go_enter Tryd.func31, Tryd.ntmps31
  go_wp2_with fail
  rw [← HW1.out]
  refine (no_any _ R g n c 0 T E (0 : Nat) 0 0 40 J1.out.rz).mono ?_
  rintro e w9 ⟨rfl, z9, f9⟩
  rw [HPN.out] at z9
  have J9 := Lib.hid (J1.out.fz z9 f9)
  clear z9 f9
  go_wp2
  refine bodyPost_ret (v := .tuple #[]) (by simp [results, Tryd.results31, go_sem]) rfl ?_
  exact J9.out.bad rfl
set_option maxRecDepth 100000 in
set_option maxHeartbeats 3200000 in
theorem line_d (w : World) (R g n c : Nat) (T : List Tk) (E : Int) (h : RZ w R g T n c 0 E (0 : Nat) 0 0) (hlg : g < w.heap.size) (hn1 : 0 < n) (hn7 : n ≤ 1000000) (hT : LT T) (P : Nat) (xs : List NM) (ls : List LM) (vi vl : Value) (hP : PS w P xs ls vi vl) (cnt : Nat) (ov : Bool) (hc64 : decide ((64 : Int) ≤ (cnt : Int)) = false) (hc256 : decide ((256 : Int) < (n : Int)) = false) (hov : ov = false) (hw : (T.getD 0 default).w = [105, 110]) (hl : 0 < ls.length) (hl7 : ls.length ≤ 1000) : Calls Tryd.prog 31 #[.pointer (some ⟨R, 0, none⟩), .pointer (some ⟨P, 0, none⟩), .int .i64 cnt, .bool ov] w (LnAns w R g T n c E P xs ls vi vl (.err (T.getD 0 default).a 40)) := by
  obtain ⟨Al, cl, rfl, hcl⟩ := row_shape hP.owl
  obtain ⟨Ai, ci, rfl, hci⟩ := row_shape hP.owi
  have hRl := h.lt
  have hnn := h.hn
  obtain ⟨t, ht⟩ : ∃ t, t = T.getD 0 default := ⟨_, rfl⟩
  have HTT := Lib.hid ht
  have HLG := Lib.hid hlg
  obtain ⟨c0, -, -, -, -, -⟩ := h.c0
  obtain ⟨k0, k1, k2, k3⟩ := h.tok 0 hn1
  rw [← ht] at k0 k1 k2 k3
  replace k0 : w.cell? ⟨g, 0, none⟩ = some (.int .i64 t.k) := by rw [Nat.zero_mul] at k0; exact k0
  replace k1 : w.cell? ⟨g, 1, none⟩ = some (.int .i64 t.a) := by rw [Nat.zero_mul, Nat.zero_add] at k1; exact k1
  replace k2 : w.cell? ⟨g, 2, none⟩ = some (.string (bs t.w)) := by rw [Nat.zero_mul, Nat.zero_add] at k2; exact k2
  replace k3 : w.cell? ⟨g, 3, none⟩ = some (.int .i64 t.n) := by rw [Nat.zero_mul, Nat.zero_add] at k3; exact k3
  have q0 : ∀ W : World, (Instr.indexAt 57 (.slice (some ⟨g, 0, none⟩) n c) (.int .i64 0)).run Tryd.prog W = .ok (.pointer (some ⟨g, 0, none⟩)) W := fun W => by
    have := idxTo g n c 0 hn1 W
    rw [Nat.zero_mul] at this
    exact this
  have J1 := Lib.hid (show LJ w (w.alloc (.cells #[.int .i64 t.k, .int .i64 t.a, .string (bs t.w), .int .i64 t.n] 61)) R g T n c 0 E 0 0 t P xs ls (.slice Ai xs.length ci) (.slice Al ls.length cl) from ⟨h.up _, (Fr.refl _ _).alloc _, heap_alloc_new w _, hP.keep (up _), hRl⟩)
  obtain ⟨w1, hw1⟩ : ∃ w1, w1 = w.alloc (.cells #[.int .i64 t.k, .int .i64 t.a, .string (bs t.w), .int .i64 t.n] 61) := ⟨_, rfl⟩
  rw [← hw1] at J1
  have HW1 := Lib.hid hw1
  have hgl := h.lg
  have HPN := Lib.hid (show placeR T 0 E = t.a by rw [ht]; unfold placeR; rw [if_pos (by omega)])
  have HI := Lib.hid (fun (W : World) (hW : RZ W R g T n c 0 E (0 : Nat) 0 0) => (show Calls Tryd.prog 48 #[.pointer (some ⟨R, 0, none⟩), .string ⟨#[105, 110]⟩] W (fun e w' => e = .returned (.bool true) ∧ ∃ j, w' = W.drewN j) from is_any W R g n c 0 T E (0 : Nat) 0 0 hW [105, 110] true (fun a b => hT.kw _ (getD_mem (by rw [h.hn]; exact a)) (by rw [b]; decide)) (by symm; exact decide_eq_true ⟨hn1, hw⟩)))
  rw [← ht]
  subst hov
  have hd : decide ((0 : Int) < (ls.length : Int)) = true := by simp; omega
  clear h hP hlg hT ht hw1 hw
  go_enter Tryd.func31, Tryd.ntmps31
  go_wp2_with fail
  rw [← HW1.out]
  refine (HI.out _ J1.out.rz).mono ?_
  rintro e w2 ⟨rfl, j2, e2⟩
  have J2 := Lib.hid (show LJ w w2 R g T n c 0 E 0 0 t P xs ls (.slice Ai xs.length ci) (.slice Al ls.length cl) by rw [e2]; exact J1.out.keep (below_drewN (Below.refl _ _) (Nat.le_refl _)))
  clear e2
  obtain ⟨-, p1, -⟩ := J2.out.ps.cells
  have hPl := J2.out.ps.lt
  go_wp2_with fail
  refine (no_any _ R g n c 0 T E (0 : Nat) 0 0 40 J2.out.rz).mono ?_
  rintro e w9 ⟨rfl, z9, f9⟩
  rw [HPN.out] at z9
  have J9 := Lib.hid (J2.out.fz z9 f9)
  clear z9 f9
  go_wp2
  refine bodyPost_ret (v := .tuple #[]) (by simp [results, Tryd.results31, go_sem]) rfl ?_
  exact J9.out.bad rfl
set_option maxRecDepth 100000 in
set_option maxHeartbeats 6400000 in
theorem line_e (w : World) (R g n c : Nat) (T : List Tk) (E : Int) (h : RZ w R g T n c 0 E (0 : Nat) 0 0) (hlg : g < w.heap.size) (hn1 : 0 < n) (hn7 : n ≤ 1000000) (hT : LT T) (P : Nat) (xs : List NM) (ls : List LM) (vi vl : Value) (hP : PS w P xs ls vi vl) (cnt : Nat) (ov : Bool) (hkk : ∀ t ∈ T, t.k = 1 ∨ t.k = 2 ∨ t.k = 3) (hc64 : decide ((64 : Int) ≤ (cnt : Int)) = false) (hc256 : decide ((256 : Int) < (n : Int)) = false) (hov : ov = false) (hw : (T.getD 0 default).w = [105, 110]) (hl : ls.length = 0) (hx7 : xs.length ≤ 1000) : Calls Tryd.prog 31 #[.pointer (some ⟨R, 0, none⟩), .pointer (some ⟨P, 0, none⟩), .int .i64 cnt, .bool ov] w (LnAns w R g T n c E P xs ls vi vl (inPr (pgOf xs ls) (inT T E))) := by
  obtain ⟨Al, cl, rfl, hcl⟩ := row_shape hP.owl
  obtain ⟨Ai, ci, rfl, hci⟩ := row_shape hP.owi
  have hRl := h.lt
  have hnn := h.hn
  obtain ⟨t, ht⟩ : ∃ t, t = T.getD 0 default := ⟨_, rfl⟩
  have HTT := Lib.hid ht
  have HLG := Lib.hid hlg
  obtain ⟨c0, -, -, -, -, -⟩ := h.c0
  obtain ⟨k0, k1, k2, k3⟩ := h.tok 0 hn1
  rw [← ht] at k0 k1 k2 k3
  replace k0 : w.cell? ⟨g, 0, none⟩ = some (.int .i64 t.k) := by rw [Nat.zero_mul] at k0; exact k0
  replace k1 : w.cell? ⟨g, 1, none⟩ = some (.int .i64 t.a) := by rw [Nat.zero_mul, Nat.zero_add] at k1; exact k1
  replace k2 : w.cell? ⟨g, 2, none⟩ = some (.string (bs t.w)) := by rw [Nat.zero_mul, Nat.zero_add] at k2; exact k2
  replace k3 : w.cell? ⟨g, 3, none⟩ = some (.int .i64 t.n) := by rw [Nat.zero_mul, Nat.zero_add] at k3; exact k3
  have q0 : ∀ W : World, (Instr.indexAt 57 (.slice (some ⟨g, 0, none⟩) n c) (.int .i64 0)).run Tryd.prog W = .ok (.pointer (some ⟨g, 0, none⟩)) W := fun W => by
    have := idxTo g n c 0 hn1 W
    rw [Nat.zero_mul] at this
    exact this
  have J1 := Lib.hid (show LJ w (w.alloc (.cells #[.int .i64 t.k, .int .i64 t.a, .string (bs t.w), .int .i64 t.n] 61)) R g T n c 0 E 0 0 t P xs ls (.slice Ai xs.length ci) (.slice Al ls.length cl) from ⟨h.up _, (Fr.refl _ _).alloc _, heap_alloc_new w _, hP.keep (up _), hRl⟩)
  obtain ⟨w1, hw1⟩ : ∃ w1, w1 = w.alloc (.cells #[.int .i64 t.k, .int .i64 t.a, .string (bs t.w), .int .i64 t.n] 61) := ⟨_, rfl⟩
  rw [← hw1] at J1
  have HW1 := Lib.hid hw1
  have hgl := h.lg
  have HI := Lib.hid (fun (W : World) (hW : RZ W R g T n c 0 E (0 : Nat) 0 0) => (show Calls Tryd.prog 48 #[.pointer (some ⟨R, 0, none⟩), .string ⟨#[105, 110]⟩] W (fun e w' => e = .returned (.bool true) ∧ ∃ j, w' = W.drewN j) from is_any W R g n c 0 T E (0 : Nat) 0 0 hW [105, 110] true (fun a b => hT.kw _ (getD_mem (by rw [h.hn]; exact a)) (by rw [b]; decide)) (by symm; exact decide_eq_true ⟨hn1, hw⟩)))
  subst hov
  have hd : decide ((0 : Int) < (ls.length : Int)) = false := by rw [hl]; rfl
  have HIN := Lib.hid (fun (W : World) (hW : RZ W R g T n c 0 E (0 : Nat) 0 0) (hg : g < W.heap.size) => input04_any W R g n c 0 T E hW hg hn7 hT hkk)
  have hn1x : xs.length + 1 ≤ maxLen := by unfold maxLen; omega
  have hn2x : (xs.length + 1) * 48 ≤ 140737488355328 := by omega
  obtain ⟨i0, hi, hz0, hz1, hz2⟩ := info_parts infoIn
  have HI0 := Lib.hid (And.intro hi (And.intro hz0 (And.intro hz1 hz2)))
  have HL := Lib.hid hl
  have hl0 : ¬ 0 < ls.length := by omega
  clear hi hz0 hz1 hz2
  clear h hP hlg hT ht hw1 hw hl hkk
  go_enter Tryd.func31, Tryd.ntmps31
  go_wp2_with fail
  rw [← HW1.out]
  refine (HI.out _ J1.out.rz).mono ?_
  rintro e w2 ⟨rfl, j2, e2⟩
  have J2 := Lib.hid (show LJ w w2 R g T n c 0 E 0 0 t P xs ls (.slice Ai xs.length ci) (.slice Al ls.length cl) by rw [e2]; exact J1.out.keep (below_drewN (Below.refl _ _) (Nat.le_refl _)))
  clear e2
  obtain ⟨p0, p1, pf⟩ := J2.out.ps.cells
  have hPl := J2.out.ps.lt
  clear pf
  go_wp2_with fail
  refine (HI.out _ J2.out.rz).mono ?_
  rintro e w3 ⟨rfl, j3, e3⟩
  have J3 := Lib.hid (show LJ w w3 R g T n c 0 E 0 0 t P xs ls (.slice Ai xs.length ci) (.slice Al ls.length cl) by rw [e3]; exact J2.out.keep (below_drewN (Below.refl _ _) (Nat.le_refl _)))
  clear e3
  clear p0 p1 hPl HI k0 k1 k2 k3 c0 q0 hd
  obtain ⟨p0, p1, pf⟩ := J3.out.ps.cells
  have pf0 := pf 0
  have hPl := J3.out.ps.lt
  have hgl3 := Nat.lt_of_lt_of_le HLG.out J3.out.fr.size
  have nP : (Value.slice Ai xs.length ci).ownBlock ≠ some P := fun e => by have := (row_base J3.out.ps.owi e).1; omega
  clear pf
  go_wp2
  go_region_law ((first | (go_simp; go_at_call 49; (refine (HIN.out _ (J3.out.rz.keep (below_drew _)) hgl3).mono ?_; rintro e w5 ⟨nm, pl, A, m, k, rfl, f5, I', fa, fc, z5, ok5⟩; have ps5 := (J3.out.ps.keep (below_drew _)).onR f5 (J3.out.rz.keep (below_drew _)).blk; obtain ⟨p50, p51, pf5⟩ := ps5.cells; have pf50 := pf5 0; have hPl5 := ps5.lt; have H5 := Lib.hid (And.intro ps5 (And.intro ((J3.out.fr.trans (below_fr (below_drew _) _)).trans f5) (And.intro z5 ok5))); clear ps5 pf5 f5 z5 ok5)) | (refine step_append_lies _ (by rfl) _ _ _ (by rfl) (P + 1) 44 i0 _ 3 48 Tryd.underlying23 HI0.out.1 HI0.out.2.1 HI0.out.2.2.1 HI0.out.2.2.2 rfl (by omega) (.slice Ai xs.length ci) xs.length (xs.flatMap NM.cells) (by rfl) (H5.out.1.owi.alloc _) ⟨w5.heap.size, 0, none⟩ 1 1 [.string (bs nm), .int .i64 pl, .slice A m k] (by rfl) (by rfl) (World.news_of_block (cs := #[.string (bs nm), .int .i64 pl, .slice A m k]) (t := 44) (fr := (0, 0)) (heap_alloc_new w5 _)) (by intro u hu; simp at hu; rcases hu with rfl | rfl | rfl <;> rfl) (by omega) hn1x hn2x (by simp; omega) (w5.heap.size + 1) (by simp) ?_; intro q cap w6 hown6 hgrow hat hlt6; have hP6 := ((hgrow.block P (by simp; omega) (Ne.symm nP)).trans (heap_alloc_old w5 _ hPl5)).trans H5.out.1.blk; have y0 : w6.cell? ⟨P, 0, none⟩ = some (.slice Ai xs.length ci) := (by rw [cell_of_row _ _ _ _ _ _ hP6]; rfl); have y1 : w6.frozen? ⟨P, 0, none⟩ = false := frozen_of_row _ _ _ _ _ hP6)))
  all_goals
    have hPl6 := heap_lt hP6
    have hfr6 : Fr (PM P (.slice Ai xs.length ci) (.slice Al ls.length cl)) w5 (w6.setCell ⟨P, 0, none⟩ (.slice (some ⟨q, 0, none⟩) (xs.length + 1) cap)) := ((below_fr (up _) _).trans (Fr.grown hgrow _ fun j hj => .inr (.inl hj))).set (.inl (.inl rfl)) 0 _
    have hR6 := (hfr6.block R H5.out.2.2.1.lt (H5.out.1.notR H5.out.2.2.1.blk)).trans H5.out.2.2.1.blk
    have HFR := Lib.hid (And.intro hfr6 hR6)
    have HOG := Lib.hid (And.intro hgrow hown6)
    have HAT := Lib.hid hat
    clear hfr6 hR6 hgrow hown6 hat hP6
    go_wp2
    refine bodyPost_ret (v := .tuple #[]) (by simp [results, Tryd.results31, go_sem]) rfl ?_
    have hF : Fr (fun k => k = R ∨ PM P (.slice Ai xs.length ci) (.slice Al ls.length cl) k) w (w6.setCell ⟨P, 0, none⟩ (.slice (some ⟨q, 0, none⟩) (xs.length + 1) cap)) := (LnAns.fr H5.out.2.1).trans (HFR.out.1.weak fun _ _ e => .inr e)
    obtain ⟨y, hy⟩ : ∃ y, y = inT T E := ⟨_, rfl⟩
    have ok5 := H5.out.2.2.2
    rw [← hy] at ok5 ⊢
    cases y with
    | inl y =>
      obtain ⟨rfl, rfl, hne⟩ := ok5
      exact ⟨rfl, hF, I', _, _, HFR.out.2, rfl, rfl, hne⟩
    | inr y =>
      obtain ⟨rfl, rfl, rfl, rfl, rfl, hrs, hmk⟩ := ok5
      have hadd := H5.out.1.addIn ⟨y, A, k⟩ (up _) HOG.out.1 HOG.out.2 hrs hmk
      exact ⟨rfl, hF, I', 0, 0, HFR.out.2, rfl, rfl, xs ++ [⟨y, A, k⟩], ls, _, _, hadd.1, pg_in rfl, NR.of (HAT.out.imp id fun e => by have := H5.out.2.1.size; omega) rfl, NR.refl _ _, by simp; omega⟩
end Go.Proofs.YthdognmppbckbaaDoor
