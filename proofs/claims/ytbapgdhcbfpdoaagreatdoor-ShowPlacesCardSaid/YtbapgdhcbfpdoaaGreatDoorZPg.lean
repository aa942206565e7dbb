/- Layer 4, put together: ParLg, ParIt, ParPl, ParRw. -/
import Derived.Test.YtbapgdhcbfpdoaaGreatDoorZLf
import Derived.Test.YtbapgdhcbfpdoaaGreatDoorZPf
import Derived.Deep.AppendLies
/- How much there is of what is read: over plain lists. -/
namespace Go.Proofs.YtbapgdhcbfpdoaaGreatDoor
open Go.RowKit
theorem nums_len (r : List Tk) : (numsOf r).length ≤ r.length := by
  unfold numsOf; rw [List.length_map]; exact (List.takeWhile_sublist _).length_le
theorem settle_len : ∀ (s : List (Option It)) (l : List It), (settleL l s).1.length + (settleL l s).2.length ≤ l.length + s.length
  | [], l => Nat.le_refl _
  | none :: s, l => by show l.length + s.length ≤ l.length + (s.length + 1); omega
  | some x :: s, l => by
    have := settle_len s (l ++ [x])
    rw [List.length_append] at this
    show (settleL (l ++ [x]) s).1.length + (settleL (l ++ [x]) s).2.length ≤ l.length + (s.length + 1)
    simp at this; omega
def Sm (N : Nat) (x : It) : Prop := x.ns.length ≤ N ∧ x.nm.length ≤ 1000
theorem mrun_bd : ∀ (n N : Nat) (ts : List Tk) (b : Bool) (l : List It) (s : List (Option It)) (x : List It), ts.length ≤ n → ts.length ≤ N → (∀ t ∈ ts, t.w.length ≤ 1000) → (∀ y ∈ l, Sm N y) → (∀ y ∈ s, ∀ z, y = some z → Sm N z) → mrun ts b l s = .ok x → x.length ≤ l.length + s.length + ts.length ∧ ∀ y ∈ x, Sm N y := by
  intro n N
  induction n with
  | zero =>
    intro ts b l s x hn hN hw hl hs h
    obtain rfl : ts = [] := List.eq_nil_of_length_eq_zero (by omega)
    rw [mrun] at h; injection h with h; subst h; exact ⟨by omega, hl⟩
  | succ n ih =>
    intro ts b l s x hn hN hw hl hs h
    cases ts with
    | nil => rw [mrun] at h; injection h with h; subst h; exact ⟨by omega, hl⟩
    | cons t r =>
      simp only [List.length_cons] at hn hN ⊢
      have h1 := mk_len r
      have h2 := past_len r
      have h3 := nums_len r
      have hwr : ∀ t ∈ r, t.w.length ≤ 1000 := fun u hu => hw u (by simp [hu])
      have hwm : ∀ t ∈ (mk r).2, t.w.length ≤ 1000 := by
        cases r with
        | nil => intro u hu; simp [mk] at hu
        | cons y r =>
          unfold mk
          simp only
          split
          · exact fun u hu => hwr u (by simp [hu])
          · exact hwr
      have hwp : ∀ t ∈ pastNums r, t.w.length ≤ 1000 := fun u hu => hwr u ((List.dropWhile_suffix _).subset hu)
      have snoc : ∀ y : It, Sm N y → ∀ z ∈ l ++ [y], Sm N z := fun y hy z hz => by
        rcases List.mem_append.1 hz with h | h
        · exact hl z h
        · simp at h; subst h; exact hy
      have push : ∀ o : Option It, (∀ z, o = some z → Sm N z) → ∀ y ∈ o :: s, ∀ z, y = some z → Sm N z := fun o ho y hy z hz => by
        rcases List.mem_cons.1 hy with h | h
        · subst h; exact ho z hz
        · exact hs y h z hz
      rw [mrun_cons] at h
      split at h
      · split at h
        · cases h
        · have := ih _ _ _ _ _ (by omega) (by omega) hwm hl (push _ fun z hz => by injection hz with hz; subst hz; exact ⟨by simp, by simp⟩) h
          refine ⟨?_, this.2⟩
          have := this.1
          simp only [List.length_cons] at this
          omega
      · split at h
        · split at h
          · have := ih _ _ _ _ _ (by omega) (by omega) hwp (snoc _ ⟨by simp; omega, by simp⟩) hs h
            refine ⟨?_, this.2⟩
            have := this.1
            simp only [List.length_append, List.length_cons, List.length_nil] at this
            omega
          · split at h
            · have := ih _ _ _ _ _ (by omega) (by omega) hwr (snoc _ ⟨by simp, hw t (by simp)⟩) hs h
              refine ⟨?_, this.2⟩
              have := this.1
              simp only [List.length_append, List.length_cons, List.length_nil] at this
              omega
            · split at h
              · split at h
                · cases h
                · have := ih _ _ _ _ _ (by omega) (by omega) hwr hl (push _ fun z hz => by cases hz) h
                  refine ⟨?_, this.2⟩
                  have := this.1
                  simp only [List.length_cons] at this
                  omega
              · split at h <;> cases h
        · have hse := settle_all (P := Sm N) s l hl hs
          have hsl := settle_len s l
          split at h
          · split at h
            · cases h
            · injection h with h; subst h; exact ⟨by omega, hse.1⟩
          · split at h
            · have := ih _ _ _ _ _ (by omega) (by omega) hwr hse.1 hse.2 h
              exact ⟨by omega, this.2⟩
            · cases h
theorem expr_bd {ts : List Tk} {x : List It} (hw : ∀ t ∈ ts, t.w.length ≤ 1000) (h : exprR ts = .ok x) : x.length ≤ ts.length ∧ ∀ y ∈ x, Sm ts.length y := by
  have := mrun_bd ts.length ts.length ts false [] [] x (Nat.le_refl _) (Nat.le_refl _) hw (fun y hy => by simp at hy) (fun y hy => by simp at hy) h
  simpa using this
structure PgBd (p : Pg) : Prop where
  its : ∀ m ∈ p.lns, m.nm.length ≤ 1000 ∧ m.its.length ≤ 70000 ∧ ∀ y ∈ m.its, Sm 70000 y
  ins : ∀ m ∈ p.ins, m.nm.length ≤ 1000 ∧ ∀ y ∈ m.sd, y.1.length ≤ 1000
theorem sides_bd : ∀ (us : List Tk) (l sd : List (List UInt8 × Int)), (∀ t ∈ us, t.w.length ≤ 1000) → (∀ y ∈ l, y.1.length ≤ 1000) → sidesR us l = .ok sd → ∀ y ∈ sd, y.1.length ≤ 1000
  | [], l, sd, _, hl, h => by rw [sidesR] at h; injection h with h; subst h; exact hl
  | u :: us, l, sd, hu, hl, h => by
    rw [sidesR] at h
    split at h
    · cases h
    split at h
    · cases h
    · exact sides_bd us _ sd (fun t ht => hu t (by simp [ht])) (fun y hy => by
        rcases List.mem_append.1 hy with hy | hy
        · exact hl y hy
        · simp at hy; subst hy; exact hu u (by simp)) h
theorem addR_bd {p q : Pg} {ts : List Tk} (hp : PgBd p) (hl : ts.length ≤ 66000) (hw : ∀ t ∈ ts, t.w.length ≤ 1000) (h : addR p ts = .ok q) : PgBd q := by
  have hln : ∀ nm pl us, nm.length ≤ 1000 → us.length ≤ 66000 → (∀ t ∈ us, t.w.length ≤ 1000) → addLnR p nm pl us = .ok q → PgBd q := by
    intro nm pl us hnm hus hwu h1
    unfold addLnR at h1
    split at h1
    · cases h1
    · rename_i its h2
      injection h1 with h1
      subst h1
      refine ⟨fun m hm => ?_, hp.ins⟩
      simp only [List.mem_append, List.mem_singleton] at hm
      rcases hm with hm | rfl
      · exact hp.its m hm
      · have := expr_bd hwu h2
        exact ⟨hnm, by show its.length ≤ _; omega, fun y hy => ⟨by have := (this.2 y hy).1; omega, (this.2 y hy).2⟩⟩
  cases ts with
  | nil => injection h with h; subst h; exact hp
  | cons f r =>
    have hwr : ∀ t ∈ r, t.w.length ≤ 1000 := fun u hu => hw u (by simp [hu])
    simp at hl
    rw [addR_cons] at h
    split at h
    · injection h with h; subst h; exact hp
    split at h
    · cases h
    split at h
    · cases h
    split at h
    · cases h
    split at h
    · unfold addInR at h
      split at h
      · cases h
      · cases r with
        | nil => injection h with h; subst h; exact hp
        | cons t r =>
          simp only at h
          split at h
          · cases h
          · split at h
            · cases h
            · split at h
              · cases h
              · rename_i sd h2
                injection h with h
                subst h
                refine ⟨hp.its, fun m hm => ?_⟩
                simp only [List.mem_append, List.mem_singleton] at hm
                rcases hm with hm | rfl
                · exact hp.ins m hm
                · exact ⟨hwr t (by simp), sides_bd _ [] _ (fun u hu => hwr u (by simp [(List.dropLast_sublist r).subset hu])) (fun y hy => by simp at hy) h2⟩
    split at h
    · exact hln _ _ _ (by simp) (by omega) hwr h
    split at h
    · cases h
    split at h
    · cases h
    exact hln _ _ _ (hw f (by simp)) (by rw [List.length_drop]; omega) (fun t ht => hwr t (List.mem_of_mem_drop ht)) h
theorem lines_bd : ∀ (n : Nat) (e : Int) (p q : Pg) (us : List Tk), us.length ≤ n → us.length ≤ 66000 → (∀ t ∈ us, t.w.length ≤ 1000) → PgBd p → linesR e p us = .ok q → PgBd q := by
  intro n
  induction n with
  | zero =>
    intro e p q us h _ _ hp hq
    obtain rfl : us = [] := List.length_eq_zero_iff.1 (by omega)
    rw [lines_nil] at hq
    split at hq
    · injection hq with hq; subst hq; exact hp
    · cases hq
  | succ n ih =>
    intro e p q us h h66 hw hp hq
    cases us with
    | nil =>
      rw [lines_nil] at hq
      split at hq
      · injection hq with hq; subst hq; exact hp
      · cases hq
    | cons f r =>
      cases hx : addR p ((f :: r).take (cutAt (f :: r))) with
      | err a c => rw [lines_err hx] at hq; cases hq
      | ok p2 =>
        rw [lines_ok hx] at hq
        exact ih e p2 q _ (by simp [cutAt] at h ⊢; omega) (by rw [List.length_drop]; omega) (fun t ht => hw t (List.mem_of_mem_drop ht)) (addR_bd hp (by rw [List.length_take]; omega) (fun t ht => hw t (List.mem_of_mem_take ht)) hx) hq
theorem pz_bd {l : List UInt8} {q : Pg} (h : parseR l = .ok q) : PgBd q := by
  cases hx : lexR l with
  | err a c => rw [pz_bad hx] at h; cases h
  | ok ts =>
    rw [pz_ok hx] at h
    have hg := lexR_gd hx
    refine lines_bd _ _ _ _ _ (Nat.le_refl _) (by simp; omega) (fun t ht => ?_) ⟨fun m hm => by simp at hm, fun m hm => by simp at hm⟩ h
    rcases List.mem_append.1 ht with ht | ht
    · exact (hg.1 t ht).1
    · simp at ht; subst ht; simp
theorem alike_parts {l m : List It} (h : l.map zI = m.map zI) : l.length = m.length ∧ ∀ i, i < l.length → (m.getD i default).how = (l.getD i default).how ∧ (m.getD i default).fn = (l.getD i default).fn ∧ (m.getD i default).nm = (l.getD i default).nm ∧ (m.getD i default).ns = (l.getD i default).ns := by
  have hl : l.length = m.length := by have := congrArg List.length h; simpa using this
  refine ⟨hl, fun i hi => ?_⟩
  have h1 := congrArg (·[i]?) h
  simp only [List.getElem?_map, List.getElem?_eq_getElem hi, List.getElem?_eq_getElem (show i < m.length by omega), Option.map_some, Option.some.injEq] at h1
  rw [List.getD_eq_getElem?_getD, List.getD_eq_getElem?_getD, List.getElem?_eq_getElem hi, List.getElem?_eq_getElem (show i < m.length by omega)]
  simp only [Option.getD_some]
  exact ⟨(congrArg It.how h1).symm, (congrArg It.fn h1).symm, (congrArg It.nm h1).symm, (congrArg It.ns h1).symm⟩
end Go.Proofs.YtbapgdhcbfpdoaaGreatDoor
/- Contract of the document's Items: items that are alike. -/
namespace Go.Proofs.YtbapgdhcbfpdoaaGreatDoor
open Go.RowKit
theorem idxIt (b o len c k : Nat) (h1 : k < len) (w : World) : (Instr.indexAt 31 (.slice (some ⟨b, o, none⟩) len c) (.int .i64 (k : Int))).run Tryz.prog w = .ok (.pointer (some ⟨b, o + k * 5, none⟩)) w := by
  have e := WideShapes.add_plain b o (k * 5)
  have h0 : (0 : Int) ≤ (k : Int) ∧ (k : Int) < (len : Int) := by omega
  go_simp
theorem idxNm (b o len c k : Nat) (h1 : k < len) (w : World) : (Instr.indexAt 35 (.slice (some ⟨b, o, none⟩) len c) (.int .i64 (k : Int))).run Tryz.prog w = .ok (.pointer (some ⟨b, o + k, none⟩)) w := by
  have e := WideShapes.add_plain b o (k * 1)
  have h0 : (0 : Int) ≤ (k : Int) ∧ (k : Int) < (len : Int) := by omega
  go_simp
theorem beq_bytes (l : List UInt8) : ((bs l).toList == (bs l).toList) = true := beq_self_eq_true _
set_option maxRecDepth 100000 in
set_option maxHeartbeats 3200000 in
theorem items_eq (A B : Option Addr) (l m : List It) (n c d : Nat) (w : World) (hn : l.length = n) (hm : m.length = n) (h : RdIt w A l) (g : RdIt w B m) (hz : l.map zI = m.map zI) (hn7 : n ≤ 1000000) (hb : ∀ x ∈ l, Sm 1000000 x) :
    Calls Tryz.prog 16 #[.slice A n c, .slice B n d] w fun e w' => e = .returned (.bool true) ∧ Below w.heap.size w w' := by
  have H := Lib.hid h
  have G := Lib.hid g
  have HZ := Lib.hid (And.intro hn (And.intro hm (And.intro (alike_parts hz).2 hb)))
  clear h g hz hb hn hm
  go_enter Tryz.func16, Tryz.ntmps16
  go_wp2
  go_loopw [5] (fun i wr => ∃ k : Nat, k ≤ n ∧ i = .int .i64 k ∧ Hid (Below w.heap.size w wr)) (fun i _ => n - (intOf i).toNat)
  case atStart => exact ⟨0, by omega, rfl, Below.refl _ _⟩
  case round =>
    obtain ⟨k, hk, rfl, HB⟩ := hrel
    rename World => wo
    by_cases hlt : k < n
    · obtain ⟨x, hx⟩ : ∃ x, x = l.getD k default := ⟨_, rfl⟩
      obtain ⟨y, hy⟩ : ∃ y, y = m.getD k default := ⟨_, rfl⟩
      have hkl : k < l.length := by rw [HZ.out.1]; exact hlt
      have hxy := HZ.out.2.2.1 k hkl
      have hxs : Sm 1000000 x := by
        rw [hx, List.getD_eq_getElem?_getD, List.getElem?_eq_getElem hkl]; exact HZ.out.2.2.2 _ (List.getElem_mem hkl)
      obtain ⟨b1, o1, rfl, ⟨lb1, _⟩, hi1⟩ := H.out (by omega)
      obtain ⟨b2, o2, rfl, ⟨lb2, _⟩, hi2⟩ := G.out (by rw [HZ.out.2.1]; omega)
      obtain ⟨a0, _, a2, a3, A1, c1, a4, a5⟩ := hi1 k hkl
      obtain ⟨b0, _, b2', b3, A2, c2, b4, b5⟩ := hi2 k (by rw [HZ.out.2.1]; exact hlt)
      rw [← hx] at a0 a2 a3 a4 a5 hxy
      rw [← hy] at b0 b2' b3 b4 b5 hxy
      obtain ⟨e1, e2, e3, e4⟩ := hxy
      rw [e1] at b0
      rw [e2] at b2'
      rw [e3] at b3
      rw [e4] at b4 b5
      have hbr := HB.out.size
      have u0 := fun j => (show (wo.drewN j).cell? ⟨b1, o1 + k * 5, none⟩ = some (.int .i64 x.how) from (cell_below HB.out lb1 _).trans a0)
      have u2 := fun j => (show (wo.drewN j).cell? ⟨b1, o1 + k * 5 + 2, none⟩ = some (.int .u8 x.fn) from (cell_below HB.out lb1 _).trans a2)
      have u3 := fun j => (show (wo.drewN j).cell? ⟨b1, o1 + k * 5 + 3, none⟩ = some (.string (bs x.nm)) from (cell_below HB.out lb1 _).trans a3)
      have u4 := fun j => (show (wo.drewN j).cell? ⟨b1, o1 + k * 5 + 4, none⟩ = some (.slice A1 x.ns.length c1) from (cell_below HB.out lb1 _).trans a4)
      have v0 := fun j => (show (wo.drewN j).cell? ⟨b2, o2 + k * 5, none⟩ = some (.int .i64 x.how) from (cell_below HB.out lb2 _).trans b0)
      have v2 := fun j => (show (wo.drewN j).cell? ⟨b2, o2 + k * 5 + 2, none⟩ = some (.int .u8 x.fn) from (cell_below HB.out lb2 _).trans b2')
      have v3 := fun j => (show (wo.drewN j).cell? ⟨b2, o2 + k * 5 + 3, none⟩ = some (.string (bs x.nm)) from (cell_below HB.out lb2 _).trans b3)
      have v4 := fun j => (show (wo.drewN j).cell? ⟨b2, o2 + k * 5 + 4, none⟩ = some (.slice A2 x.ns.length c2) from (cell_below HB.out lb2 _).trans b4)
      have q1 := idxIt b1 o1 n c k hlt
      have q2 := idxIt b2 o2 n d k hlt
      have hbb := beq_bytes x.nm
      have HN := Lib.hid (And.intro a5 (And.intro b5 hxs))
      have HK := Lib.hid (And.intro lb1 lb2)
      clear a0 a2 a3 a4 a5 b0 b2' b3 b4 b5 e1 e2 e3 e4 hxs hi1 hi2 hx hy hkl
      go_wp2
      go_quiet (fail)
      clear u0 u2 u3 v0 v2 v3 hbb
      go_wp2
      have HU := Lib.hid (And.intro (u4 0) (v4 0))
      clear u4 v4
      go_loopw [6] (fun i wx => ∃ j : Nat, j ≤ x.ns.length ∧ i = .int .i64 j ∧ Hid (Below wo.heap.size wo wx)) (fun i _ => x.ns.length - (intOf i).toNat)
      case atStart => exact ⟨0, by omega, rfl, by first | exact Below.refl _ _ | exact below_drewN (Below.refl _ _) (Nat.le_refl _)⟩
      case round =>
        obtain ⟨j, hj, rfl, HB2⟩ := hrel
        have hx1 := HN.out.2.2.1
        have hs2 := HB2.out.size
        have hb1 : b1 < wo.heap.size := by have := HK.out.1; omega
        have hb2 : b2 < wo.heap.size := by have := HK.out.2; omega
        by_cases hjl : j < x.ns.length
        · obtain ⟨b3, o3, rfl, ⟨lb3, _⟩, hn3⟩ := HN.out.1 (by omega)
          obtain ⟨b4, o4, rfl, ⟨lb4, _⟩, hn4⟩ := HN.out.2.1 (by omega)
          have u4 := fun t => (show (wr.drewN t).cell? ⟨b1, o1 + k * 5 + 4, none⟩ = some (.slice (some ⟨b3, o3, none⟩) x.ns.length c1) from (cell_below HB2.out hb1 _).trans HU.out.1)
          have v4 := fun t => (show (wr.drewN t).cell? ⟨b2, o2 + k * 5 + 4, none⟩ = some (.slice (some ⟨b4, o4, none⟩) x.ns.length c2) from (cell_below HB2.out hb2 _).trans HU.out.2)
          have y3 := fun t => (show (wr.drewN t).cell? ⟨b3, o3 + j, none⟩ = some (.int .i64 (x.ns.getD j 0)) from (cell_below HB2.out (by omega) _).trans ((cell_below HB.out lb3 _).trans (hn3 j hjl)))
          have y4 := fun t => (show (wr.drewN t).cell? ⟨b4, o4 + j, none⟩ = some (.int .i64 (x.ns.getD j 0)) from (cell_below HB2.out (by omega) _).trans ((cell_below HB.out lb4 _).trans (hn4 j hjl)))
          have q3 := idxNm b3 o3 x.ns.length c1 j hjl
          have q4 := idxNm b4 o4 x.ns.length c2 j hjl
          have u40 : wr.cell? ⟨b1, o1 + k * 5 + 4, none⟩ = some (.slice (some ⟨b3, o3, none⟩) x.ns.length c1) := u4 0
          clear hn3 hn4
          go_wp2
          go_quiet (fail)
          clear u4 v4 y3 y4 q1 q2 q3 q4 u40
          go_wp2
          go_roundw
          case rel => exact ⟨j + 1, by omega, by go_num, below_drewN HB2.out hs2⟩
          case measure => simp [intOf]; omega
        · obtain rfl : j = x.ns.length := by omega
          have u40 : wr.cell? ⟨b1, o1 + k * 5 + 4, none⟩ = some (.slice A1 x.ns.length c1) := (cell_below HB2.out hb1 _).trans HU.out.1
          go_wp2
          clear u40 q1 q2
          go_roundw
          case rel => exact ⟨k + 1, by omega, by go_num, HB.out.trans (HB2.out.mono HB.out.size)⟩
          case measure => simp [intOf]; omega
    · obtain rfl : k = n := by omega
      go_wp2
      go_ret
      exact ⟨rfl, HB.out⟩
end Go.Proofs.YtbapgdhcbfpdoaaGreatDoor
/- Contracts of the laws' helpers: plain, out. -/
namespace Go.Proofs.YtbapgdhcbfpdoaaGreatDoor
open Go.RowKit
def plainS (s : ByteArray) (m : Nat) : Prop := s.size ≤ m ∧ Plain s.data.toList
theorem byte_at {s : ByteArray} {k : Nat} (h : k < s.size) : s[k] ∈ s.data.toList := by
  have : s.data.toList[k]'(by rw [len_s]; exact h) = s[k] := rfl
  rw [← this]; exact List.getElem_mem _
theorem neqB {b : UInt8} {n : Nat} (h : b.toNat ≠ n) : ((b.toNat : Int) == ((n : Nat) : Int)) = false := by simp; omega
/-! ### out -/
def outS (s : ByteArray) : ByteArray := (⟨#[111, 117, 116, 32]⟩ : ByteArray) ++ s
theorem outS_list (s : ByteArray) : (outS s).data.toList = out4 ++ s.data.toList := by unfold outS; rw [app_list]; rfl
/-- A text is no expression. -/
def OutNo (w : World) (e : Ending) (w' : World) : Prop := e = .returned (.tuple #[.slice none 0 0, .bool false]) ∧ Below w.heap.size w w'
def OutYes (w : World) (its : List It) (n : Nat) (e : Ending) (w' : World) : Prop := ∃ A c, e = .returned (.tuple #[.slice A n c, .bool true]) ∧ RdIt w' A its ∧ n ≤ c ∧ Below w.heap.size w w'
end Go.Proofs.YtbapgdhcbfpdoaaGreatDoor
/- Rows of items: as they are read, and put behind one another. -/
namespace Go.Proofs.YtbapgdhcbfpdoaaGreatDoor
open Go.RowKit
theorem items_rows {w : World} {A : Option Addr} {l : List It} (h : RdIt w A l) (hl : 0 < l.length) : ∃ (b o : Nat) (ms : List IM), A = some ⟨b, o, none⟩ ∧ b < w.heap.size ∧ ms.map IM.it = l ∧
    (∀ (j : Nat) (u : Value), (ms.flatMap IM.cells)[j]? = some u → w.cell? ((⟨b, o, none⟩ : Addr).add j) = some u) ∧ ∀ m ∈ ms, RdN w (fun j => j < w.heap.size) m.A m.it.ns := by
  obtain ⟨b, o, e, ⟨h1, _⟩, h2⟩ := h hl
  have key : ∀ n, n ≤ l.length → ∃ ms : List IM, ms.map IM.it = l.take n ∧ (∀ i (hi : i < ms.length), (w.cell? ⟨b, o + i * 5, none⟩ = some (.int .i64 (ms[i]).it.how) ∧ w.cell? ⟨b, o + i * 5 + 1, none⟩ = some (.int .i64 (ms[i]).it.pl) ∧ w.cell? ⟨b, o + i * 5 + 2, none⟩ = some (.int .u8 (ms[i]).it.fn) ∧
      w.cell? ⟨b, o + i * 5 + 3, none⟩ = some (.string (bs (ms[i]).it.nm)) ∧ w.cell? ⟨b, o + i * 5 + 4, none⟩ = some (.slice (ms[i]).A (ms[i]).it.ns.length (ms[i]).c))) ∧ ∀ m ∈ ms, RdN w (fun j => j < w.heap.size) m.A m.it.ns := by
    intro n
    induction n with
    | zero => intro _; exact ⟨[], rfl, fun i hi => by simp at hi, fun m hm => by simp at hm⟩
    | succ n ih =>
      intro hn
      obtain ⟨ms, m1, m2, m3⟩ := ih (by omega)
      have hlen : ms.length = n := by have := congrArg List.length m1; simp at this; omega
      obtain ⟨i0, i1, i2, i3, A', c', i4, i5⟩ := h2 n (by omega)
      have hx : l.getD n default = l[n] := by rw [List.getD_eq_getElem?_getD, List.getElem?_eq_getElem (by omega)]; rfl
      rw [hx] at i0 i1 i2 i3 i4 i5
      refine ⟨ms ++ [⟨l[n], A', c'⟩], ?_, fun i hi => ?_, fun m hm => ?_⟩
      · rw [List.map_append, m1]; simp
      · rcases Nat.lt_or_ge i ms.length with h3 | h3
        · rw [List.getElem_append_left h3]; exact m2 i h3
        · have hi' : i = ms.length := by simp at hi; omega
          subst hi'
          rw [List.getElem_concat_length rfl, hlen]
          exact ⟨i0, i1, i2, i3, i4⟩
      · rcases List.mem_append.1 hm with h3 | h3
        · exact m3 m h3
        · simp at h3; subst h3; exact i5
  obtain ⟨ms, m1, m2, m3⟩ := key l.length (Nat.le_refl _)
  rw [List.take_length] at m1
  refine ⟨b, o, ms, e, h1, m1, fun j u hu => ?_, m3⟩
  rw [WideShapes.add_plain]
  have hj : j < ms.length * 5 := by
    have := (List.getElem?_eq_some_iff.1 hu).1
    rwa [flatI_len] at this
  have hi : j / 5 < ms.length := by omega
  have hu2 := flatI_get ms (j / 5) (j % 5) hi (Nat.mod_lt _ (by decide))
  rw [show j / 5 * 5 + j % 5 = j by omega, hu] at hu2
  obtain ⟨c0, c1, c2, c3, c4⟩ := m2 (j / 5) hi
  have hr : j % 5 = 0 ∨ j % 5 = 1 ∨ j % 5 = 2 ∨ j % 5 = 3 ∨ j % 5 = 4 := by omega
  rcases hr with hr | hr | hr | hr | hr
  · rw [hr] at hu2; rw [show o + j = o + j / 5 * 5 by omega, c0]; simpa [IM.cells] using hu2.symm
  · rw [hr] at hu2; rw [show o + j = o + j / 5 * 5 + 1 by omega, c1]; simpa [IM.cells] using hu2.symm
  · rw [hr] at hu2; rw [show o + j = o + j / 5 * 5 + 2 by omega, c2]; simpa [IM.cells] using hu2.symm
  · rw [hr] at hu2; rw [show o + j = o + j / 5 * 5 + 3 by omega, c3]; simpa [IM.cells] using hu2.symm
  · rw [hr] at hu2; rw [show o + j = o + j / 5 * 5 + 4 by omega, c4]; simpa [IM.cells] using hu2.symm
theorem ones_all (ms : List IM) : ∀ u ∈ ms.flatMap IM.cells, u.oneCell' = true := by
  intro u hu
  obtain ⟨m, _, hm⟩ := List.mem_flatMap.1 hu
  exact IM.one m u hm
theorem cell_lt {w : World} {b j : Nat} {v : Value} (h : w.cell? ⟨b, j, none⟩ = some v) : b < w.heap.size := World.block_lt_of_cell? w ⟨b, j, none⟩ h
theorem news_below {w w' : World} (hb : Below w.heap.size w w') {b o : Nat} (hl : b < w.heap.size) {xs : List Value} (h : ∀ (j : Nat) (u : Value), xs[j]? = some u → w.cell? ((⟨b, o, none⟩ : Addr).add j) = some u) : ∀ (j : Nat) (u : Value), xs[j]? = some u → w'.cell? ((⟨b, o, none⟩ : Addr).add j) = some u := fun j u hu => by
  have := h j u hu
  rw [WideShapes.add_plain] at this ⊢
  exact (cell_below hb hl _).trans this
theorem rdN_below {w w' : World} {A : Option Addr} {ns : List Int} (h : RdN w (fun j => j < w.heap.size) A ns) (hb : Below w.heap.size w w') : RdN w' (fun j => j < w'.heap.size) A ns := RdN.mono h fun b hb' => ⟨Nat.lt_of_lt_of_le hb' hb.size, hb.block b hb'⟩
/-- A row of items of one's own reads as items. -/
theorem row_items {w : World} {base : Nat} {A : Option Addr} {c n : Nat} {ms : List IM} (h : w.ownsRow base 37 5 (.slice A n c) n (ms.flatMap IM.cells)) (hn : ms.length = n) (hm : ∀ m ∈ ms, RdN w (fun j => j < w.heap.size) m.A m.it.ns) : RdIt w A (ms.map IM.it) := by
  subst hn
  exact items_read h (fun g _ _ hg => hg) hm
end Go.Proofs.YtbapgdhcbfpdoaaGreatDoor
