/- Contract: put: a list in order with a monomial more. -/
import Derived.Maps.AppendAt
import Derived.Test.YtogflbpphacokaaPolyF
import Derived.Test.YtogflbpphacokaaPolyN
namespace Go.Proofs.Ytogflbpphacokaa
open Go.RowKit

/-- What put answers: a list of its own; below block base nothing has turned. -/
def PutRes (base : Nat) (w : World) (l : List Mo) (e : Ending) (w' : World) : Prop :=
  ∃ A c, e = .returned (.slice A l.length c) ∧ Own w' base (.slice A l.length c) l ∧ Below base w w'

theorem info44 : (Try.prog.info? 44).map (fun i => (i.zero, i.size, i.bytes)) = some (some (.agg #[.int .i64 0, .int .u8 0, .int .u8 0, .int .u8 0, .int .u8 0, .int .u8 0, .int .u8 0]), 7, 16) := by kernel_rfl
theorem Own.form' {w : World} {base n : Nat} {v : Value} {l : List Mo} (h : Own w base v l) (hn : l.length = n) (hl : 0 < n) : ∃ g c, v = .slice (some ⟨g, 0, none⟩) n c ∧ base ≤ g ∧ g < w.heap.size := by
  subst hn; exact h.form hl
theorem Cells7.cell_set {w : World} {b o : Nat} {m : Mo} (h : Cells7 w b o m) {p : Addr} (hp : p.block ≠ b) (u : Value) : Cells7 (w.setCell p u) b o m := by
  have e : ∀ j, (w.setCell p u).cell? ⟨b, j, none⟩ = w.cell? ⟨b, j, none⟩ := fun j => World.cell?_setCell_other w p ⟨b, j, none⟩ u (fun e => hp (by rw [e]))
  unfold Cells7 at *
  simp only [e]
  exact h
theorem Cells7.far {w w' : World} {b o : Nat} {m : Mo} {row : Option Nat} (h : Cells7 w b o m) (hg : w.grownBy w' row) (hb : b < w.heap.size) (hr : some b ≠ row) : Cells7 w' b o m := by
  have e : ∀ j, w'.cell? ⟨b, j, none⟩ = w.cell? ⟨b, j, none⟩ := fun j => World.cell?_of_block (hg.block b hb hr)
  unfold Cells7 at *
  simp only [e]
  exact h
theorem oneCells (m : Mo) : ∀ u ∈ m.cells, u.oneCell' = true := by
  intro u hu; simp [Mo.cells] at hu; rcases hu with rfl | rfl | rfl | rfl | rfl | rfl | rfl <;> rfl
theorem cells_at {w : World} {b o : Nat} {m : Mo} (h : Cells7 w b o m) : ∀ (j : Nat) (u : Value), m.cells[j]? = some u → w.cell? ((⟨b, o, none⟩ : Addr).add j) = some u := by
  intro j u hj
  rw [WideShapes.add_plain]
  obtain ⟨h0, h1, h2, h3, h4, h5, h6⟩ := h
  match j, hj with
  | 0, hj => simp [Mo.cells] at hj; subst hj; exact h0
  | 1, hj => simp [Mo.cells] at hj; subst hj; exact h1
  | 2, hj => simp [Mo.cells] at hj; subst hj; exact h2
  | 3, hj => simp [Mo.cells] at hj; subst hj; exact h3
  | 4, hj => simp [Mo.cells] at hj; subst hj; exact h4
  | 5, hj => simp [Mo.cells] at hj; subst hj; exact h5
  | 6, hj => simp [Mo.cells] at hj; subst hj; exact h6
  | j + 7, hj => simp [Mo.cells] at hj

theorem put_ret {base n : Nat} {w w' : World} {l l' : List Mo} {A : Option Addr} {c : Nat} (hp : l = l') (hn : l'.length = n) (ho : Own w' base (.slice A l'.length c) l') (hb : Below base w w') : PutRes base w l (.returned (.slice A n c)) w' := by
  subst hp hn; exact ⟨A, c, rfl, ho, hb⟩

theorem Own.snoc {w : World} {base : Nat} {v : Value} {l : List Mo} {m : Mo} (h : w.ownsRow base 44 7 v (l.length + 1) (l.flatMap Mo.cells ++ m.cells)) : Own w base v (l ++ [m]) := by
  unfold Own
  rw [List.length_append, List.flatMap_append, List.flatMap_cons, List.flatMap_nil, List.append_nil]
  exact h
/-- What holds behind the append. -/
theorem put_mid {w W2 w1 : World} {base : Nat} {l : List Mo} {m : Mo} {v v1 : Value} {o : Obj} (HB2 : Hid (Below w.heap.size w W2)) (HN : Hid (base ≤ w.heap.size ∧ ∀ k, v.ownBlock = some k → base ≤ k ∧ k < w.heap.size)) (HM : Hid (Cells7 W2 w.heap.size 0 m))
    (hown : w1.ownsRow base 44 7 v1 (l.length + 1) (l.flatMap Mo.cells ++ m.cells)) (hgr : (W2.alloc o).grownBy w1 v.ownBlock) (hat : v1.ownBlock = v.ownBlock ∨ v1.ownBlock = some (W2.alloc o).heap.size) :
    ∃ g c, v1 = .slice (some ⟨g, 0, none⟩) (l.length + 1) c ∧ Hid (Own w1 base (.slice (some ⟨g, 0, none⟩) (l.length + 1) c) (l ++ [m])) ∧ Hid (Cells7 w1 w.heap.size 0 m) ∧ Hid (Below base w w1) ∧ Hid (g ≠ w.heap.size) ∧ base ≤ g := by
  have ho := Own.snoc hown
  obtain ⟨g, c, rfl, hbg, _⟩ := ho.form' (n := l.length + 1) (by simp) (by omega)
  have hlt : w.heap.size < W2.heap.size := by
    obtain ⟨h0, _⟩ := HM.out
    rcases Nat.lt_or_ge w.heap.size W2.heap.size with h | h
    · exact h
    · rw [World.cell?, Array.getElem?_eq_none h] at h0; cases h0
  refine ⟨g, c, rfl, ho, ?_, ?_, ?_, hbg⟩
  · refine (HM.out.gr hlt ((Gr.refl _).alloc o)).far hgr (by simp; omega) ?_
    intro e
    have := (HN.out.2 _ e.symm).2
    omega
  · have h1 := ((HB2.out.mono HN.out.1).alloc (Nat.le_trans HN.out.1 HB2.out.size) o)
    exact h1.grown hgr (by have := HN.out.1; have := HB2.out.size; simp; omega) (fun k hk => (HN.out.2 k hk).1)
  · show g ≠ w.heap.size
    rcases hat with h | h
    · have := (HN.out.2 g h.symm).2; omega
    · simp [Value.ownBlock] at h; omega

theorem curL_top (l : List Mo) (m : Mo) : curL l m l.length = l ++ [m] := if_pos rfl
theorem Own.plain {w : World} {base g n c : Nat} {l : List Mo} (h : Own w base (.slice (some ⟨g, 0, none⟩) n c) l) : w.ownsRow base 44 7 (.slice (some ⟨g, 0, none⟩) n c) n (l.flatMap Mo.cells) := by
  have h0 := h
  obtain ⟨_, ⟨e, _⟩ | ⟨g', cap, cur, e, _⟩⟩ := h0
  · cases e
  · injection e with _ e1 _
    subst e1
    exact h
theorem Own.cells7' {w : World} {base g n c : Nat} {l : List Mo} (h : Own w base (.slice (some ⟨g, 0, none⟩) n c) l) (hn : l.length = n) {k : Nat} (hk : k < n) : Cells7 w g (k * 7) (nth l k) := by
  subst hn; exact h.cells7 hk
theorem put_step {w : World} {base g n c k : Nat} {l l' : List Mo} {m : Mo} (h : Own w base (.slice (some ⟨g, 0, none⟩) n c) l) (hn : l.length = n) (hk : k < n) (he : l.set k m = l') : Own (((((((w.setCell ⟨g, k * 7, none⟩ (.int .i64 m.n)).setCell ⟨g, k * 7 + 1, none⟩ (.int .u8 m.e0)).setCell ⟨g, k * 7 + 2, none⟩ (.int .u8 m.e1)).setCell ⟨g, k * 7 + 3, none⟩ (.int .u8 m.e2)).setCell ⟨g, k * 7 + 4, none⟩ (.int .u8 m.e3)).setCell ⟨g, k * 7 + 5, none⟩ (.int .u8 m.e4)).setCell ⟨g, k * 7 + 6, none⟩ (.int .u8 m.e5)) base (.slice (some ⟨g, 0, none⟩) n c) l' := by
  subst hn he
  have := h.set7 hk m
  rwa [List.length_set] at this
theorem put_box {w : World} {g k b o : Nat} {m x : Mo} (h : Cells7 w b o x) (hne : b ≠ g) : Cells7 (((((((w.setCell ⟨g, k * 7, none⟩ (.int .i64 m.n)).setCell ⟨g, k * 7 + 1, none⟩ (.int .u8 m.e0)).setCell ⟨g, k * 7 + 2, none⟩ (.int .u8 m.e1)).setCell ⟨g, k * 7 + 3, none⟩ (.int .u8 m.e2)).setCell ⟨g, k * 7 + 4, none⟩ (.int .u8 m.e3)).setCell ⟨g, k * 7 + 5, none⟩ (.int .u8 m.e4)).setCell ⟨g, k * 7 + 6, none⟩ (.int .u8 m.e5)) b o x :=
  ((((((h.cell_set (fun e => hne e.symm) _).cell_set (fun e => hne e.symm) _).cell_set (fun e => hne e.symm) _).cell_set (fun e => hne e.symm) _).cell_set (fun e => hne e.symm) _).cell_set (fun e => hne e.symm) _).cell_set (fun e => hne e.symm) _
theorem put_below {w0 w : World} {base g k : Nat} {m : Mo} (h : Below base w0 w) (hg : base ≤ g) : Below base w0 (((((((w.setCell ⟨g, k * 7, none⟩ (.int .i64 m.n)).setCell ⟨g, k * 7 + 1, none⟩ (.int .u8 m.e0)).setCell ⟨g, k * 7 + 2, none⟩ (.int .u8 m.e1)).setCell ⟨g, k * 7 + 3, none⟩ (.int .u8 m.e2)).setCell ⟨g, k * 7 + 4, none⟩ (.int .u8 m.e3)).setCell ⟨g, k * 7 + 5, none⟩ (.int .u8 m.e4)).setCell ⟨g, k * 7 + 6, none⟩ (.int .u8 m.e5)) :=
  ((((((h.setCell (p := ⟨g, k * 7, none⟩) hg _).setCell (p := ⟨g, k * 7 + 1, none⟩) hg _).setCell (p := ⟨g, k * 7 + 2, none⟩) hg _).setCell (p := ⟨g, k * 7 + 3, none⟩) hg _).setCell (p := ⟨g, k * 7 + 4, none⟩) hg _).setCell (p := ⟨g, k * 7 + 5, none⟩) hg _).setCell (p := ⟨g, k * 7 + 6, none⟩) hg _
theorem put_last {w0 w : World} {base g n c k : Nat} {l l' l'' : List Mo} {m : Mo} (hp : l'' = l') (h : Own w base (.slice (some ⟨g, 0, none⟩) n c) l) (hn : l.length = n) (hk : k < n) (he : l.set k m = l') (hb : Below base w0 (((((((w.setCell ⟨g, k * 7, none⟩ (.int .i64 m.n)).setCell ⟨g, k * 7 + 1, none⟩ (.int .u8 m.e0)).setCell ⟨g, k * 7 + 2, none⟩ (.int .u8 m.e1)).setCell ⟨g, k * 7 + 3, none⟩ (.int .u8 m.e2)).setCell ⟨g, k * 7 + 4, none⟩ (.int .u8 m.e3)).setCell ⟨g, k * 7 + 5, none⟩ (.int .u8 m.e4)).setCell ⟨g, k * 7 + 6, none⟩ (.int .u8 m.e5))) : PutRes base w0 l'' (.returned (.slice (some ⟨g, 0, none⟩) n c)) (((((((w.setCell ⟨g, k * 7, none⟩ (.int .i64 m.n)).setCell ⟨g, k * 7 + 1, none⟩ (.int .u8 m.e0)).setCell ⟨g, k * 7 + 2, none⟩ (.int .u8 m.e1)).setCell ⟨g, k * 7 + 3, none⟩ (.int .u8 m.e2)).setCell ⟨g, k * 7 + 4, none⟩ (.int .u8 m.e3)).setCell ⟨g, k * 7 + 5, none⟩ (.int .u8 m.e4)).setCell ⟨g, k * 7 + 6, none⟩ (.int .u8 m.e5)) := by
  have hl : l'.length = n := by rw [← he, List.length_set]; exact hn
  exact put_ret hp hl (by rw [hl]; exact put_step h hn hk he) hb

set_option maxRecDepth 100000 in
set_option maxHeartbeats 1000000 in
theorem put_any (A : Option Addr) (l : List Mo) (c : Nat) (m : Mo) (base : Nat) (w : World) (h : Own w base (.slice A l.length c) l) (hb : base ≤ w.heap.size) (hl : l.length ≤ 4096)
    (hwf : ∀ x ∈ l, x.wf) (hm : m.wf) (hs : ∀ x ∈ l, -9223372036854775808 ≤ x.n + m.n ∧ x.n + m.n ≤ 9223372036854775807) :
    Calls Try.prog 42 #[.slice A l.length c, .agg #[.int .i64 m.n, .int .u8 m.e0, .int .u8 m.e1, .int .u8 m.e2, .int .u8 m.e3, .int .u8 m.e4, .int .u8 m.e5]] w (PutRes base w (putL l m)) := by
  obtain ⟨i0, hi, hz0, hz1, hz2⟩ := info_parts info44
  have H := Lib.hid h
  have HR := Lib.hid (h.rd hwf)
  have HS := Lib.hid hs
  have HW := Lib.hid hm
  have HI := Lib.hid (And.intro hi (And.intro hz0 (And.intro hz1 hz2)))
  have mo := mixedOrders
  clear h hs hm hi hz0 hz1 hz2
  go_enter Try.func42, Try.ntmps42
  go_wp2
  go_loopw [5] (fun ii wr => ∃ i : Nat, i ≤ l.length ∧ ii = .int .i64 i ∧ (∀ j, j < i → m.code < (nth l j).code) ∧ Gr (w.alloc (.cells #[.int .i64 m.n, .int .u8 m.e0, .int .u8 m.e1, .int .u8 m.e2, .int .u8 m.e3, .int .u8 m.e4, .int .u8 m.e5] 44)) wr) (fun i _ => l.length - (intOf i).toNat)
  case atStart => exact ⟨0, by omega, rfl, fun j hj => by omega, Gr.refl _⟩
  case round =>
    obtain ⟨i, hk, rfl, hok, hg⟩ := hrel
    have HK := Lib.hid hok
    have HG := Lib.hid hg
    clear hok
    by_cases hlt : i < l.length
    · have hM := fun n os => ((Cells7.box w m).gr (by simp) (hg.trans ⟨n, os, rfl⟩) : Cells7 (Go.Sort.grow (wr.drewN n) os) w.heap.size 0 m)
      obtain ⟨b, c', hA, hbg, hb2⟩ := H.out.form (by omega)
      injection hA with hA1 _ hA2
      subst hA1 hA2
      have HC := Lib.hid (H.out.cells7 hlt)
      have hwk := Lib.hid (hwf _ (nth_mem hlt))
      have hN := fun n os => (HC.out.gr hb2 ((((Gr.refl w).alloc _).trans hg).trans ⟨n, os, rfl⟩) : Cells7 (Go.Sort.grow (wr.drewN n) os) b (i * 7) (nth l i))
      have n0 := fun n os => (hN n os).1
      have n1 := fun n os => (hN n os).2.1
      have n2 := fun n os => (hN n os).2.2.1
      have n3 := fun n os => (hN n os).2.2.2.1
      have n4 := fun n os => (hN n os).2.2.2.2.1
      have n5 := fun n os => (hN n os).2.2.2.2.2.1
      have n6 := fun n os => (hN n os).2.2.2.2.2.2
      have m0 := fun n os => (hM n os).1
      have m1 := fun n os => (hM n os).2.1
      have m2 := fun n os => (hM n os).2.2.1
      have m3 := fun n os => (hM n os).2.2.2.1
      have m4 := fun n os => (hM n os).2.2.2.2.1
      have m5 := fun n os => (hM n os).2.2.2.2.2.1
      have m6 := fun n os => (hM n os).2.2.2.2.2.2
      have q4 := idxM b 0 l.length c (i : Int) (by omega) (by omega)
      rw [Int.toNat_natCast, Nat.zero_add] at q4
      have Q4 := Lib.hid q4
      clear hN hM hg
      have hd : decide (i < l.length) = true := by simpa using hlt
      by_cases h1 : m.code < (nth l i).code
      · have hr := cmpI_gt h1
        have H1 := Lib.hid h1
        clear h1
        go_wp2
        go_quiet_grown ((go_at_call 37; exact Calls.grown_of (above_any (nth l i) m hwk.out HW.out _)))
        clear q4 n0 n1 n2 n3 n4 n5 n6 m0 m1 m2 m3 m4 m5 m6 hd
        go_wp2
        go_roundw
        case rel => exact ⟨i + 1, by omega, by go_num, fun j hj => by
          rcases Nat.lt_or_ge j i with h1 | h1
          · exact HK.out j h1
          · obtain rfl : j = i := by omega
            exact H1.out, HG.out.trans ⟨_, _, rfl⟩⟩
        case measure => simp [intOf]; omega
      · have hr : (cmpI (nth l i).code m.code == 1) = false := by simp [cmpI]; (repeat' split) <;> omega
        go_wp2
        go_quiet_grown ((go_at_call 37; exact Calls.grown_of (above_any (nth l i) m hwk.out HW.out _)))
        clear n0 n1 n2 n3 n4 n5 n6 m0 m1 m2 m3 m4 m5 m6 hr q4 hd
        go_wp2
        obtain ⟨W1, hW1⟩ : ∃ W1, W1 = Go.Sort.grow (wr.drewN nq) osq := ⟨_, rfl⟩
        rw [← hW1]
        have HG1 := Lib.hid (HG.out.trans ⟨nq, osq, hW1⟩)
        clear hW1
        have hM := fun n os => ((Cells7.box w m).gr (by simp) (HG1.out.trans ⟨n, os, rfl⟩) : Cells7 (Go.Sort.grow (W1.drewN n) os) w.heap.size 0 m)
        have hN := fun n os => (HC.out.gr hb2 ((((Gr.refl w).alloc _).trans HG1.out).trans ⟨n, os, rfl⟩) : Cells7 (Go.Sort.grow (W1.drewN n) os) b (i * 7) (nth l i))
        have n0 := fun n os => (hN n os).1
        have n1 := fun n os => (hN n os).2.1
        have n2 := fun n os => (hN n os).2.2.1
        have n3 := fun n os => (hN n os).2.2.2.1
        have n4 := fun n os => (hN n os).2.2.2.2.1
        have n5 := fun n os => (hN n os).2.2.2.2.2.1
        have n6 := fun n os => (hN n os).2.2.2.2.2.2
        have m0 := fun n os => (hM n os).1
        have m1 := fun n os => (hM n os).2.1
        have m2 := fun n os => (hM n os).2.2.1
        have m3 := fun n os => (hM n os).2.2.2.1
        have m4 := fun n os => (hM n os).2.2.2.2.1
        have m5 := fun n os => (hM n os).2.2.2.2.2.1
        have m6 := fun n os => (hM n os).2.2.2.2.2.2
        clear hN hM
        have q4 := Q4.out
        have hd : decide (i < l.length) = true := by simpa using hlt
        by_cases he : (nth l i).code = m.code
        · have hr : cmpI (nth l i).code m.code = 0 := by rw [he]; exact cmpI_eq _
          have HE := Lib.hid (putL_same HK.out hlt he)
          clear he h1
          go_quiet_grown ((go_at_call 37; exact Calls.grown_of (above_any (nth l i) m hwk.out HW.out _)))
          clear n0 n1 n2 n3 n4 n5 n6 m0 m1 m2 m3 m4 m5 m6 q4
          go_wp2
          obtain ⟨W2, hW2⟩ : ∃ W2, W2 = Go.Sort.grow (W1.drewN nq) osq := ⟨_, rfl⟩
          rw [← hW2]
          have HG2 := Lib.hid (HG1.out.trans ⟨nq, osq, hW2⟩)
          clear hW2
          have HO2 := Lib.hid (H.out.below (((Gr.refl w).alloc _).trans HG2.out).below)
          have hN := HO2.out.cells7 hlt
          have hfz := World.ownsRow.frozenAt HO2.out (i * 7)
          have hM := (Cells7.box w m).gr (by simp) HG2.out
          have n0 := hN.1
          have m0 := hM.1
          have hss := HS.out _ (nth_mem hlt)
          clear hN hM
          go_region
          go_wp2
          go_ret
          exact put_ret HE.out (by simp) (Own.set1 HO2.out hlt _) (((((Gr.refl w).alloc _).trans HG2.out).below.mono hb).setCell (p := ⟨b, i * 7, none⟩) hbg _).drew
        · have hr : (cmpI (nth l i).code m.code == 0) = false := by simp [cmpI]; (repeat' split) <;> omega
          have HE := Lib.hid (putL_new HK.out hk (fun _ => by omega))
          clear he h1
          go_quiet_grown ((go_at_call 37; exact Calls.grown_of (above_any (nth l i) m hwk.out HW.out _)))
          clear n0 n1 n2 n3 n4 n5 n6 m0 m1 m2 m3 m4 m5 m6 hr q4
          obtain ⟨W2, hW2⟩ : ∃ W2, W2 = Go.Sort.grow (W1.drewN nq) osq := ⟨_, rfl⟩
          rw [← hW2]
          have HG2 := Lib.hid (HG1.out.trans ⟨nq, osq, hW2⟩)
          clear hW2
          have HO2 := Lib.hid (H.out.below (((Gr.refl w).alloc _).trans HG2.out).below)
          have HM2 := Lib.hid ((Cells7.box w m).gr (by simp) HG2.out)
          have HB2 := Lib.hid ((((Gr.refl w).alloc _).trans HG2.out).below)
          have HN2 := Lib.hid (And.intro hb (World.ownsRow.lt H.out))
          have hbase2 : base ≤ W2.heap.size := Nat.le_trans hb HB2.out.size
          obtain ⟨m0, m1, m2, m3, m4, m5, m6⟩ := HM2.out
          go_wp2_with (at_builtin; refine wpList_append_own_at _ rfl (.tmp 48) (.tmp 50) _ rfl base 44 i0 _ 7 16 Try.underlying22 HI.out.1 HI.out.2.1 HI.out.2.2.1 HI.out.2.2.2 rfl (by omega) (.slice (some ⟨b, 0, none⟩) l.length c) l.length (l.flatMap Mo.cells) rfl (World.ownsRow.alloc HO2.out _) ⟨W2.heap.size, 0, none⟩ 1 1 m.cells rfl rfl (cells_at (Cells7.box W2 m)) (oneCells m) (by unfold maxLen; omega) (by omega) (by simp; omega) ?_; intro v1 w1 hown1 hgr1 _ hat1; obtain ⟨g1, c1, rfl, HO3, HX, HB, HNE, hg1⟩ := put_mid HB2 HN2 HM2 hown1 hgr1 hat1; clear hown1 hgr1 hat1)
          clear m0 m1 m2 m3 m4 m5 m6
          go_loopw [6] (fun kk wr2 => ∃ k : Nat, i ≤ k ∧ k ≤ l.length ∧ kk = .int .i64 k ∧ Own wr2 base (.slice (some ⟨g1, 0, none⟩) (l.length + 1) c1) (curL l m k) ∧ Cells7 wr2 w.heap.size 0 m ∧ Below base w wr2) (fun kk _ => (intOf kk).toNat)
          case atStart => exact ⟨l.length, hk, Nat.le_refl _, rfl, by rw [curL_top]; exact HO3.out, HX.out, HB.out⟩
          case round =>
            obtain ⟨k, hik, hkl, rfl, ho, hx, hbb⟩ := hrel
            have HO := Lib.hid ho
            have HHX := Lib.hid hx
            have HBB := Lib.hid hbb
            clear ho hx hbb
            by_cases hgt : i < k
            · have hc := HO.out.cells7' (curL_len l m hkl) (k := k - 1) (by omega)
              rw [curL_nth l m hkl (by omega) (by omega)] at hc
              obtain ⟨n0, n1, n2, n3, n4, n5, n6⟩ := hc
              obtain ⟨p0, p1, p2, p3, p4, p5, p6⟩ := HO.out.cells7' (curL_len l m hkl) (k := k) (by omega)
              have f0 := World.ownsRow.frozenAt HO.out.plain (k * 7)
              have f1 := World.ownsRow.frozenAt HO.out.plain (k * 7 + 1)
              have f2 := World.ownsRow.frozenAt HO.out.plain (k * 7 + 2)
              have f3 := World.ownsRow.frozenAt HO.out.plain (k * 7 + 3)
              have f4 := World.ownsRow.frozenAt HO.out.plain (k * 7 + 4)
              have f5 := World.ownsRow.frozenAt HO.out.plain (k * 7 + 5)
              have f6 := World.ownsRow.frozenAt HO.out.plain (k * 7 + 6)
              go_wp2
              clear n0 n1 n2 n3 n4 n5 n6 p0 p1 p2 p3 p4 p5 p6 f0 f1 f2 f3 f4 f5 f6
              go_roundw
              case rel => exact ⟨k - 1, by omega, by omega, by congr 1; omega, put_step HO.out (curL_len l m hkl) (by omega) (curL_step l m hkl (by omega)), put_box HHX.out (fun e => HNE.out e.symm), put_below HBB.out hg1⟩
              case measure => simp [intOf]; omega
            · obtain rfl : i = k := by omega
              obtain ⟨n0, n1, n2, n3, n4, n5, n6⟩ := HHX.out
              obtain ⟨p0, p1, p2, p3, p4, p5, p6⟩ := HO.out.cells7' (curL_len l m hkl) (k := i) (by omega)
              have f0 := World.ownsRow.frozenAt HO.out.plain (i * 7)
              have f1 := World.ownsRow.frozenAt HO.out.plain (i * 7 + 1)
              have f2 := World.ownsRow.frozenAt HO.out.plain (i * 7 + 2)
              have f3 := World.ownsRow.frozenAt HO.out.plain (i * 7 + 3)
              have f4 := World.ownsRow.frozenAt HO.out.plain (i * 7 + 4)
              have f5 := World.ownsRow.frozenAt HO.out.plain (i * 7 + 5)
              have f6 := World.ownsRow.frozenAt HO.out.plain (i * 7 + 6)
              go_wp2
              clear n0 n1 n2 n3 n4 n5 n6 p0 p1 p2 p3 p4 p5 p6 f0 f1 f2 f3 f4 f5 f6
              go_ret
              exact put_last HE.out HO.out (curL_len l m hkl) (by omega) (curL_end l m hkl) (put_below HBB.out hg1)
    · have hd : decide (i < l.length) = false := by simpa using hlt
      have HE := Lib.hid (putL_new HK.out hk (fun h => absurd h hlt))
      clear hg hlt
      go_wp2
      go_quiet (fail)
      obtain ⟨W1, hW1⟩ : ∃ W1, W1 = wr.drewN nq := ⟨_, rfl⟩
      rw [← hW1]
      have HG1 := Lib.hid (show Gr (w.alloc (.cells #[.int .i64 m.n, .int .u8 m.e0, .int .u8 m.e1, .int .u8 m.e2, .int .u8 m.e3, .int .u8 m.e4, .int .u8 m.e5] 44)) W1 by rw [hW1]; exact HG.out.drewN _)
      clear hW1
      go_wp2
      go_quiet (fail)
      obtain ⟨W2, hW2⟩ : ∃ W2, W2 = W1.drewN nq := ⟨_, rfl⟩
      rw [← hW2]
      have HG2 := Lib.hid (show Gr (w.alloc (.cells #[.int .i64 m.n, .int .u8 m.e0, .int .u8 m.e1, .int .u8 m.e2, .int .u8 m.e3, .int .u8 m.e4, .int .u8 m.e5] 44)) W2 by rw [hW2]; exact HG1.out.drewN _)
      clear hW2
      have HO2 := Lib.hid (H.out.below (((Gr.refl w).alloc _).trans HG2.out).below)
      have HM2 := Lib.hid ((Cells7.box w m).gr (by simp) HG2.out)
      have HB2 := Lib.hid ((((Gr.refl w).alloc _).trans HG2.out).below)
      have HN2 := Lib.hid (And.intro hb (World.ownsRow.lt H.out))
      have hbase2 : base ≤ W2.heap.size := Nat.le_trans hb HB2.out.size
      obtain ⟨m0, m1, m2, m3, m4, m5, m6⟩ := HM2.out
      go_wp2_with (at_builtin; refine wpList_append_own_at _ rfl (.tmp 48) (.tmp 50) _ rfl base 44 i0 _ 7 16 Try.underlying22 HI.out.1 HI.out.2.1 HI.out.2.2.1 HI.out.2.2.2 rfl (by omega) (.slice A l.length c) l.length (l.flatMap Mo.cells) rfl (World.ownsRow.alloc HO2.out _) ⟨W2.heap.size, 0, none⟩ 1 1 m.cells rfl rfl (cells_at (Cells7.box W2 m)) (oneCells m) (by unfold maxLen; omega) (by omega) (by simp; omega) ?_; intro v1 w1 hown1 hgr1 _ hat1; obtain ⟨g1, c1, rfl, HO3, HX, HB, HNE, hg1⟩ := put_mid HB2 HN2 HM2 hown1 hgr1 hat1; clear hown1 hgr1 hat1)
      clear m0 m1 m2 m3 m4 m5 m6
      go_loopw [6] (fun kk wr2 => ∃ k : Nat, i ≤ k ∧ k ≤ l.length ∧ kk = .int .i64 k ∧ Own wr2 base (.slice (some ⟨g1, 0, none⟩) (l.length + 1) c1) (curL l m k) ∧ Cells7 wr2 w.heap.size 0 m ∧ Below base w wr2) (fun kk _ => (intOf kk).toNat)
      case atStart => exact ⟨l.length, hk, Nat.le_refl _, rfl, by rw [curL_top]; exact HO3.out, HX.out, HB.out⟩
      case round =>
        obtain ⟨k, hik, hkl, rfl, ho, hx, hbb⟩ := hrel
        have HO := Lib.hid ho
        have HHX := Lib.hid hx
        have HBB := Lib.hid hbb
        clear ho hx hbb
        by_cases hgt : i < k
        · have hc := HO.out.cells7' (curL_len l m hkl) (k := k - 1) (by omega)
          rw [curL_nth l m hkl (by omega) (by omega)] at hc
          obtain ⟨n0, n1, n2, n3, n4, n5, n6⟩ := hc
          obtain ⟨p0, p1, p2, p3, p4, p5, p6⟩ := HO.out.cells7' (curL_len l m hkl) (k := k) (by omega)
          have f0 := World.ownsRow.frozenAt HO.out.plain (k * 7)
          have f1 := World.ownsRow.frozenAt HO.out.plain (k * 7 + 1)
          have f2 := World.ownsRow.frozenAt HO.out.plain (k * 7 + 2)
          have f3 := World.ownsRow.frozenAt HO.out.plain (k * 7 + 3)
          have f4 := World.ownsRow.frozenAt HO.out.plain (k * 7 + 4)
          have f5 := World.ownsRow.frozenAt HO.out.plain (k * 7 + 5)
          have f6 := World.ownsRow.frozenAt HO.out.plain (k * 7 + 6)
          go_wp2
          clear n0 n1 n2 n3 n4 n5 n6 p0 p1 p2 p3 p4 p5 p6 f0 f1 f2 f3 f4 f5 f6
          go_roundw
          case rel => exact ⟨k - 1, by omega, by omega, by congr 1; omega, put_step HO.out (curL_len l m hkl) (by omega) (curL_step l m hkl (by omega)), put_box HHX.out (fun e => HNE.out e.symm), put_below HBB.out hg1⟩
          case measure => simp [intOf]; omega
        · obtain rfl : i = k := by omega
          obtain ⟨n0, n1, n2, n3, n4, n5, n6⟩ := HHX.out
          obtain ⟨p0, p1, p2, p3, p4, p5, p6⟩ := HO.out.cells7' (curL_len l m hkl) (k := i) (by omega)
          have f0 := World.ownsRow.frozenAt HO.out.plain (i * 7)
          have f1 := World.ownsRow.frozenAt HO.out.plain (i * 7 + 1)
          have f2 := World.ownsRow.frozenAt HO.out.plain (i * 7 + 2)
          have f3 := World.ownsRow.frozenAt HO.out.plain (i * 7 + 3)
          have f4 := World.ownsRow.frozenAt HO.out.plain (i * 7 + 4)
          have f5 := World.ownsRow.frozenAt HO.out.plain (i * 7 + 5)
          have f6 := World.ownsRow.frozenAt HO.out.plain (i * 7 + 6)
          go_wp2
          clear n0 n1 n2 n3 n4 n5 n6 p0 p1 p2 p3 p4 p5 p6 f0 f1 f2 f3 f4 f5 f6
          go_ret
          exact put_last HE.out HO.out (curL_len l m hkl) (by omega) (curL_end l m hkl) (put_below HBB.out hg1)
end Go.Proofs.Ytogflbpphacokaa
