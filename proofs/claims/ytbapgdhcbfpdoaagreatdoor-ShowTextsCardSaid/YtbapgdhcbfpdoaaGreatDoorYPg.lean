/- Layer 4, put together: ParLg, ParIt, ParPl, ParRw. -/
import Derived.Test.YtbapgdhcbfpdoaaGreatDoorYLf
import Derived.Test.YtbapgdhcbfpdoaaGreatDoorYPf
import Derived.Deep.AppendLies
/- How much there is of what is read: over plain lists. -/
namespace Go.Proofs.YtbapgdhcbfpdoaaGreatDoor
open Go.RowKit
theorem nums_len (r : List Tk) : (numsOf r).length ≤ r.length := by
  unfold numsOf; rw [List.length_map]; exact (List.takeWhile_sublist _).length_le
theorem settle_len : ∀ (s : List (Option It)) (l : List It), (settleL l s).1.length + (settleL l s).2.length ≤ l.length + s.length
  | [], l => Nat.le_refl _
  | none :: s, l => by show l.length + s.length ≤ l.length + (s.length + 1); omega
  | some x :: s, l => by
    have := settle_len s (l ++ [x])
    rw [List.length_append] at this
    show (settleL (l ++ [x]) s).1.length + (settleL (l ++ [x]) s).2.length ≤ l.length + (s.length + 1)
    simp at this; omega
def Sm (N : Nat) (x : It) : Prop := x.ns.length ≤ N ∧ x.nm.length ≤ 1000
theorem mrun_bd : ∀ (n N : Nat) (ts : List Tk) (b : Bool) (l : List It) (s : List (Option It)) (x : List It), ts.length ≤ n → ts.length ≤ N → (∀ t ∈ ts, t.w.length ≤ 1000) → (∀ y ∈ l, Sm N y) → (∀ y ∈ s, ∀ z, y = some z → Sm N z) → mrun ts b l s = .ok x → x.length ≤ l.length + s.length + ts.length ∧ ∀ y ∈ x, Sm N y := by
  intro n N
  induction n with
  | zero =>
    intro ts b l s x hn hN hw hl hs h
    obtain rfl : ts = [] := List.eq_nil_of_length_eq_zero (by omega)
    rw [mrun] at h; injection h with h; subst h; exact ⟨by omega, hl⟩
  | succ n ih =>
    intro ts b l s x hn hN hw hl hs h
    cases ts with
    | nil => rw [mrun] at h; injection h with h; subst h; exact ⟨by omega, hl⟩
    | cons t r =>
      simp only [List.length_cons] at hn hN ⊢
      have h1 := mk_len r
      have h2 := past_len r
      have h3 := nums_len r
      have hwr : ∀ t ∈ r, t.w.length ≤ 1000 := fun u hu => hw u (by simp [hu])
      have hwm : ∀ t ∈ (mk r).2, t.w.length ≤ 1000 := by
        cases r with
        | nil => intro u hu; simp [mk] at hu
        | cons y r =>
          unfold mk
          simp only
          split
          · exact fun u hu => hwr u (by simp [hu])
          · exact hwr
      have hwp : ∀ t ∈ pastNums r, t.w.length ≤ 1000 := fun u hu => hwr u ((List.dropWhile_suffix _).subset hu)
      have snoc : ∀ y : It, Sm N y → ∀ z ∈ l ++ [y], Sm N z := fun y hy z hz => by
        rcases List.mem_append.1 hz with h | h
        · exact hl z h
        · simp at h; subst h; exact hy
      have push : ∀ o : Option It, (∀ z, o = some z → Sm N z) → ∀ y ∈ o :: s, ∀ z, y = some z → Sm N z := fun o ho y hy z hz => by
        rcases List.mem_cons.1 hy with h | h
        · subst h; exact ho z hz
        · exact hs y h z hz
      rw [mrun_cons] at h
      split at h
      · split at h
        · cases h
        · have := ih _ _ _ _ _ (by omega) (by omega) hwm hl (push _ fun z hz => by injection hz with hz; subst hz; exact ⟨by simp, by simp⟩) h
          refine ⟨?_, this.2⟩
          have := this.1
          simp only [List.length_cons] at this
          omega
      · split at h
        · split at h
          · have := ih _ _ _ _ _ (by omega) (by omega) hwp (snoc _ ⟨by simp; omega, by simp⟩) hs h
            refine ⟨?_, this.2⟩
            have := this.1
            simp only [List.length_append, List.length_cons, List.length_nil] at this
            omega
          · split at h
            · have := ih _ _ _ _ _ (by omega) (by omega) hwr (snoc _ ⟨by simp, hw t (by simp)⟩) hs h
              refine ⟨?_, this.2⟩
              have := this.1
              simp only [List.length_append, List.length_cons, List.length_nil] at this
              omega
            · split at h
              · split at h
                · cases h
                · have := ih _ _ _ _ _ (by omega) (by omega) hwr hl (push _ fun z hz => by cases hz) h
                  refine ⟨?_, this.2⟩
                  have := this.1
                  simp only [List.length_cons] at this
                  omega
              · split at h <;> cases h
        · have hse := settle_all (P := Sm N) s l hl hs
          have hsl := settle_len s l
          split at h
          · split at h
            · cases h
            · injection h with h; subst h; exact ⟨by omega, hse.1⟩
          · split at h
            · have := ih _ _ _ _ _ (by omega) (by omega) hwr hse.1 hse.2 h
              exact ⟨by omega, this.2⟩
            · cases h
theorem expr_bd {ts : List Tk} {x : List It} (hw : ∀ t ∈ ts, t.w.length ≤ 1000) (h : exprR ts = .ok x) : x.length ≤ ts.length ∧ ∀ y ∈ x, Sm ts.length y := by
  have := mrun_bd ts.length ts.length ts false [] [] x (Nat.le_refl _) (Nat.le_refl _) hw (fun y hy => by simp at hy) (fun y hy => by simp at hy) h
  simpa using this
structure PgBd (p : Pg) : Prop where
  its : ∀ m ∈ p.lns, m.nm.length ≤ 1000 ∧ m.its.length ≤ 70000 ∧ ∀ y ∈ m.its, Sm 70000 y
  ins : ∀ m ∈ p.ins, m.nm.length ≤ 1000 ∧ ∀ y ∈ m.sd, y.1.length ≤ 1000
theorem sides_bd : ∀ (us : List Tk) (l sd : List (List UInt8 × Int)), (∀ t ∈ us, t.w.length ≤ 1000) → (∀ y ∈ l, y.1.length ≤ 1000) → sidesR us l = .ok sd → ∀ y ∈ sd, y.1.length ≤ 1000
  | [], l, sd, _, hl, h => by rw [sidesR] at h; injection h with h; subst h; exact hl
  | u :: us, l, sd, hu, hl, h => by
    rw [sidesR] at h
    split at h
    · cases h
    split at h
    · cases h
    · exact sides_bd us _ sd (fun t ht => hu t (by simp [ht])) (fun y hy => by
        rcases List.mem_append.1 hy with hy | hy
        · exact hl y hy
        · simp at hy; subst hy; exact hu u (by simp)) h
theorem addR_bd {p q : Pg} {ts : List Tk} (hp : PgBd p) (hl : ts.length ≤ 66000) (hw : ∀ t ∈ ts, t.w.length ≤ 1000) (h : addR p ts = .ok q) : PgBd q := by
  have hln : ∀ nm pl us, nm.length ≤ 1000 → us.length ≤ 66000 → (∀ t ∈ us, t.w.length ≤ 1000) → addLnR p nm pl us = .ok q → PgBd q := by
    intro nm pl us hnm hus hwu h1
    unfold addLnR at h1
    split at h1
    · cases h1
    · rename_i its h2
      injection h1 with h1
      subst h1
      refine ⟨fun m hm => ?_, hp.ins⟩
      simp only [List.mem_append, List.mem_singleton] at hm
      rcases hm with hm | rfl
      · exact hp.its m hm
      · have := expr_bd hwu h2
        exact ⟨hnm, by show its.length ≤ _; omega, fun y hy => ⟨by have := (this.2 y hy).1; omega, (this.2 y hy).2⟩⟩
  cases ts with
  | nil => injection h with h; subst h; exact hp
  | cons f r =>
    have hwr : ∀ t ∈ r, t.w.length ≤ 1000 := fun u hu => hw u (by simp [hu])
    simp at hl
    rw [addR_cons] at h
    split at h
    · injection h with h; subst h; exact hp
    split at h
    · cases h
    split at h
    · cases h
    split at h
    · cases h
    split at h
    · unfold addInR at h
      split at h
      · cases h
      · cases r with
        | nil => injection h with h; subst h; exact hp
        | cons t r =>
          simp only at h
          split at h
          · cases h
          · split at h
            · cases h
            · split at h
              · cases h
              · rename_i sd h2
                injection h with h
                subst h
                refine ⟨hp.its, fun m hm => ?_⟩
                simp only [List.mem_append, List.mem_singleton] at hm
                rcases hm with hm | rfl
                · exact hp.ins m hm
                · exact ⟨hwr t (by simp), sides_bd _ [] _ (fun u hu => hwr u (by simp [(List.dropLast_sublist r).subset hu])) (fun y hy => by simp at hy) h2⟩
    split at h
    · exact hln _ _ _ (by simp) (by omega) hwr h
    split at h
    · cases h
    split at h
    · cases h
    exact hln _ _ _ (hw f (by simp)) (by rw [List.length_drop]; omega) (fun t ht => hwr t (List.mem_of_mem_drop ht)) h
theorem lines_bd : ∀ (n : Nat) (e : Int) (p q : Pg) (us : List Tk), us.length ≤ n → us.length ≤ 66000 → (∀ t ∈ us, t.w.length ≤ 1000) → PgBd p → linesR e p us = .ok q → PgBd q := by
  intro n
  induction n with
  | zero =>
    intro e p q us h _ _ hp hq
    obtain rfl : us = [] := List.length_eq_zero_iff.1 (by omega)
    rw [lines_nil] at hq
    split at hq
    · injection hq with hq; subst hq; exact hp
    · cases hq
  | succ n ih =>
    intro e p q us h h66 hw hp hq
    cases us with
    | nil =>
      rw [lines_nil] at hq
      split at hq
      · injection hq with hq; subst hq; exact hp
      · cases hq
    | cons f r =>
      cases hx : addR p ((f :: r).take (cutAt (f :: r))) with
      | err a c => rw [lines_err hx] at hq; cases hq
      | ok p2 =>
        rw [lines_ok hx] at hq
        exact ih e p2 q _ (by simp [cutAt] at h ⊢; omega) (by rw [List.length_drop]; omega) (fun t ht => hw t (List.mem_of_mem_drop ht)) (addR_bd hp (by rw [List.length_take]; omega) (fun t ht => hw t (List.mem_of_mem_take ht)) hx) hq
theorem pz_bd {l : List UInt8} {q : Pg} (h : parseR l = .ok q) : PgBd q := by
  cases hx : lexR l with
  | err a c => rw [pz_bad hx] at h; cases h
  | ok ts =>
    rw [pz_ok hx] at h
    have hg := lexR_gd hx
    refine lines_bd _ _ _ _ _ (Nat.le_refl _) (by simp; omega) (fun t ht => ?_) ⟨fun m hm => by simp at hm, fun m hm => by simp at hm⟩ h
    rcases List.mem_append.1 ht with ht | ht
    · exact (hg.1 t ht).1
    · simp at ht; subst ht; simp
theorem alike_parts {l m : List It} (h : l.map zI = m.map zI) : l.length = m.length ∧ ∀ i, i < l.length → (m.getD i default).how = (l.getD i default).how ∧ (m.getD i default).fn = (l.getD i default).fn ∧ (m.getD i default).nm = (l.getD i default).nm ∧ (m.getD i default).ns = (l.getD i default).ns := by
  have hl : l.length = m.length := by have := congrArg List.length h; simpa using this
  refine ⟨hl, fun i hi => ?_⟩
  have h1 := congrArg (·[i]?) h
  simp only [List.getElem?_map, List.getElem?_eq_getElem hi, List.getElem?_eq_getElem (show i < m.length by omega), Option.map_some, Option.some.injEq] at h1
  rw [List.getD_eq_getElem?_getD, List.getD_eq_getElem?_getD, List.getElem?_eq_getElem hi, List.getElem?_eq_getElem (show i < m.length by omega)]
  simp only [Option.getD_some]
  exact ⟨(congrArg It.how h1).symm, (congrArg It.fn h1).symm, (congrArg It.nm h1).symm, (congrArg It.ns h1).symm⟩
end Go.Proofs.YtbapgdhcbfpdoaaGreatDoor
/- Contract of the document's Items: items that are alike. -/
namespace Go.Proofs.YtbapgdhcbfpdoaaGreatDoor
open Go.RowKit
theorem idxIt (b o len c k : Nat) (h1 : k < len) (w : World) : (Instr.indexAt 31 (.slice (some ⟨b, o, none⟩) len c) (.int .i64 (k : Int))).run Tryz.prog w = .ok (.pointer (some ⟨b, o + k * 5, none⟩)) w := by
  have e := WideShapes.add_plain b o (k * 5)
  have h0 : (0 : Int) ≤ (k : Int) ∧ (k : Int) < (len : Int) := by omega
  go_simp
theorem beq_bytes (l : List UInt8) : ((bs l).toList == (bs l).toList) = true := beq_self_eq_true _
end Go.Proofs.YtbapgdhcbfpdoaaGreatDoor
/- Contracts of the laws' helpers: plain, out. -/
namespace Go.Proofs.YtbapgdhcbfpdoaaGreatDoor
open Go.RowKit
/-! ### out -/
end Go.Proofs.YtbapgdhcbfpdoaaGreatDoor
/- Rows of items: as they are read, and put behind one another. -/
namespace Go.Proofs.YtbapgdhcbfpdoaaGreatDoor
open Go.RowKit
end Go.Proofs.YtbapgdhcbfpdoaaGreatDoor
