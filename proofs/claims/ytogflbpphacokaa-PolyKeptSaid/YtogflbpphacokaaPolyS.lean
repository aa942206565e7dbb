/- Contracts: the document's sums, differences, products. -/
import Derived.Test.YtogflbpphacokaaPolyR
import Derived.Test.YtogflbpphacokaaPolyO
namespace Go.Proofs.Ytogflbpphacokaa
open Go.RowKit

/-- Behind a call that answers a polynomial: it is handed on. -/
theorem res_pass {w w' : World} {r : List Mo × Int} {A : Option Addr} {c : Nat} (ho : Own w' w.heap.size (.slice A r.1.length c) r.1) (hb : Below w.heap.size w w') : PolyRes w r (.returned (.tuple #[.slice A r.1.length c, .int .i64 r.2])) w' := ⟨A, c, rfl, ho, hb⟩

set_option maxHeartbeats 1000000 in
theorem refadd_any (A B : Option Addr) (p q : List Mo) (c d : Nat) (w : World) (h : Rd w w.heap.size A p) (g : Rd w w.heap.size B q) (hl : p.length ≤ maxLen) (hl2 : q.length ≤ maxLen) :
    Calls Try.prog 25 #[.slice A p.length c, .slice B q.length d] w (PolyRes w (addR 1 p q)) := by
  have hc := Lib.hid (reftogether_any A B p q c d 1 (.inl rfl) w h g hl hl2)
  clear h g
  go_enter Try.func25, Try.ntmps25
  go_wp2_with fail
  refine (hc.out).mono ?_
  rintro e W ⟨A1, c1, rfl, ho, hb⟩
  have HO := Lib.hid ho
  clear ho
  go_wp2
  go_ret2
  exact res_pass HO.out hb
set_option maxHeartbeats 1000000 in
theorem refsub_any (A B : Option Addr) (p q : List Mo) (c d : Nat) (w : World) (h : Rd w w.heap.size A p) (g : Rd w w.heap.size B q) (hl : p.length ≤ maxLen) (hl2 : q.length ≤ maxLen) :
    Calls Try.prog 27 #[.slice A p.length c, .slice B q.length d] w (PolyRes w (addR (-1) p q)) := by
  have hc := Lib.hid (reftogether_any A B p q c d (-1) (.inr rfl) w h g hl hl2)
  clear h g
  go_enter Try.func27, Try.ntmps27
  go_wp2_with fail
  refine (hc.out).mono ?_
  rintro e W ⟨A1, c1, rfl, ho, hb⟩
  have HO := Lib.hid ho
  clear ho
  go_wp2
  go_ret2
  exact res_pass HO.out hb

/-- Block g is just the monomial m. -/
def BlkM (w : World) (g : Nat) (m : Mo) : Prop := w.heap[g]? = some (.cells #[.int .i64 m.n, .int .u8 m.e0, .int .u8 m.e1, .int .u8 m.e2, .int .u8 m.e3, .int .u8 m.e4, .int .u8 m.e5] 44 (0, 0))
theorem BlkM.cell {w : World} {g : Nat} {m : Mo} (h : BlkM w g m) (j : Nat) (hj : j < 7) : w.cell? ⟨g, j, none⟩ = some (m.cell j) := by
  unfold BlkM at h
  rw [World.cell?, h]
  match j, hj with
  | 0, _ => rfl
  | 1, _ => rfl
  | 2, _ => rfl
  | 3, _ => rfl
  | 4, _ => rfl
  | 5, _ => rfl
  | 6, _ => rfl
theorem BlkM.cells {w : World} {g : Nat} {m : Mo} (h : BlkM w g m) : Cells7 w g 0 m :=
  ⟨h.cell 0 (by omega), h.cell 1 (by omega), h.cell 2 (by omega), h.cell 3 (by omega), h.cell 4 (by omega), h.cell 5 (by omega), h.cell 6 (by omega)⟩
theorem BlkM.frozen {w : World} {g : Nat} {m : Mo} (h : BlkM w g m) (j : Nat) : w.frozen? ⟨g, j, none⟩ = false := by
  unfold BlkM at h
  simp [World.frozen?, h]
theorem BlkM.lt {w : World} {g : Nat} {m : Mo} (h : BlkM w g m) : g < w.heap.size := by
  unfold BlkM at h
  rcases Nat.lt_or_ge g w.heap.size with h1 | h1
  · exact h1
  · rw [Array.getElem?_eq_none h1] at h; cases h
theorem BlkM.new (w : World) (m : Mo) : BlkM (w.alloc (.cells #[.int .i64 m.n, .int .u8 m.e0, .int .u8 m.e1, .int .u8 m.e2, .int .u8 m.e3, .int .u8 m.e4, .int .u8 m.e5] 44)) w.heap.size m := heap_alloc_new w _
theorem BlkM.setE {w : World} {g : Nat} {m : Mo} (h : BlkM w g m) {v : Nat} (hv : v < 6) (x : Int) : BlkM (w.setCell ⟨g, 1 + v, none⟩ (.int .u8 x)) g (m.setE v x) := by
  unfold BlkM at *
  simp only [World.setCell, Array.getElem?_modify, h, if_true]
  match v, hv with
  | 0, _ => rfl
  | 1, _ => rfl
  | 2, _ => rfl
  | 3, _ => rfl
  | 4, _ => rfl
  | 5, _ => rfl
theorem cell_e (m : Mo) {v : Nat} (hv : v < 6) : m.cell (1 + v) = .int .u8 (m.e v) := by
  unfold Mo.cell; rw [if_neg (by omega), show 1 + v - 1 = v from by omega]
theorem Cells7.e {w : World} {b o : Nat} {m : Mo} (h : Cells7 w b o m) {v : Nat} (hv : v < 6) : w.cell? ⟨b, o + 1 + v, none⟩ = some (.int .u8 (m.e v)) := by
  obtain ⟨_, h0, h1, h2, h3, h4, h5⟩ := h
  match v, hv with
  | 0, _ => exact h0
  | 1, _ => exact h1
  | 2, _ => exact h2
  | 3, _ => exact h3
  | 4, _ => exact h4
  | 5, _ => exact h5
theorem idxE (b o v : Nat) (hv : v < 6) (w : World) : (Instr.indexAt 42 (.pointer (some ⟨b, o, none⟩)) (.int .i64 v)).run Try.prog w = .ok (.pointer (some ⟨b, o + v, none⟩)) w := by
  have e := WideShapes.add_plain b o v
  have h1 : (v : Int) < 6 := by omega
  go_simp

theorem sm_mul {p q : List Mo} (hp : rightB p = true) (hq : rightB q = true) (wp : ∀ m ∈ p, m.wf) (wq : ∀ m ∈ q, m.wf) : Sm (prods p q) := by
  have h1 := right_sm hp wp
  have h2 := right_sm hq wq
  refine ⟨by rw [prods_len]; exact Nat.le_trans (Nat.mul_le_mul h1.1 h2.1) (by omega), fun m hm => ?_⟩
  obtain ⟨a, ha, b, hb, rfl⟩ := mem_prods hm
  have ha := h1.2 a ha
  have hb := h2.2 b hb
  exact wf_mul ha.1 hb.1 ha.2.2 hb.2.2 ha.2.1 hb.2.1
theorem mulR_no {p q : List Mo} (h : ¬ (rightB p = true ∧ rightB q = true)) : mulR p q = ([], 20) := if_neg h
theorem mulR_yes {p q : List Mo} (hp : rightB p = true) (hq : rightB q = true) : mulR p q = wholeR (accL (prods p q)) := if_pos ⟨hp, hq⟩

theorem prods_lt {a b i k : Nat} (h : i < a) (g : k < b) : i * b + k < a * b := by
  have : (i + 1) * b ≤ a * b := Nat.mul_le_mul_right b h
  rw [Nat.add_mul] at this
  omega

set_option maxRecDepth 100000 in
set_option maxHeartbeats 1000000 in
theorem refmul_any (A B : Option Addr) (p q : List Mo) (c d : Nat) (w : World) (h : Rd w w.heap.size A p) (g : Rd w w.heap.size B q) (hl : p.length ≤ maxLen) (hl2 : q.length ≤ maxLen) :
    Calls Try.prog 29 #[.slice A p.length c, .slice B q.length d] w (PolyRes w (mulR p q)) := by
  have H := Lib.hid h
  have G := Lib.hid g
  clear h g
  cases hp : rightB p with
  | false =>
    have hz := Lib.hid (mulR_no (p := p) (q := q) (by simp [hp]))
    go_enter Try.func29, Try.ntmps29
    go_wp2_with (go_at_call 16; refine (refright_any A p c _ H.out hl).mono ?_; rintro e W ⟨rfl, hg1⟩)
    go_ret2
    exact res_none hz.out hg1.below
  | true =>
    cases hq : rightB q with
    | false =>
      have hz := Lib.hid (mulR_no (p := p) (q := q) (by simp [hq]))
      go_enter Try.func29, Try.ntmps29
      go_wp2_with fail
      refine (refright_any A p c _ H.out hl).mono ?_
      rintro e W ⟨rfl, hg1⟩
      go_wp2_with fail
      refine (refright_any B q d _ (G.out.gr hg1) hl2).mono ?_
      rintro e W2 ⟨rfl, hg2⟩
      go_wp2
      go_ret2
      exact res_none hz.out (hg1.trans hg2).below
    | true =>
      have hz := Lib.hid (mulR_yes hp hq)
      have hsm := Lib.hid (sm_mul hp hq H.out.1 G.out.1)
      have hRP := Lib.hid (right_sm hp H.out.1)
      have hRQ := Lib.hid (right_sm hq G.out.1)
      have hpl : p.length ≤ 48 := hRP.out.1
      have hql : q.length ≤ 48 := hRQ.out.1
      have mo := mixedOrders
      go_enter Try.func29, Try.ntmps29
      go_wp2_with fail
      refine (refright_any A p c _ H.out hl).mono ?_
      rintro e W ⟨rfl, hg1⟩
      go_wp2_with fail
      refine (refright_any B q d _ (G.out.gr hg1) hl2).mono ?_
      rintro e W2 ⟨rfl, hg2⟩
      have HW2 := Lib.hid ((hg1.trans hg2).below)
      clear hg1 hg2
      go_wp2
      go_loopw [6, 7] (fun v i wr => ∃ k : Nat, k ≤ p.length ∧ i = .int .i64 k ∧ Own wr w.heap.size v (accL ((prods p q).take (k * q.length))) ∧ Below w.heap.size w wr) (fun _ i _ => p.length - (intOf i).toNat)
      case atStart => exact ⟨0, by omega, rfl, by rw [Nat.zero_mul]; exact Own.nil _ _, HW2.out⟩
      case round =>
        obtain ⟨i, hk, rfl, ho, hb⟩ := hrel
        have HO := Lib.hid ho
        have HB := Lib.hid hb
        clear ho hb HW2
        by_cases hlt : i < p.length
        · obtain ⟨b, o, rfl, hb2, hc⟩ := H.out.at_ i hlt
          have HC := Lib.hid (hc i hlt)
          clear hc
          go_wp2
          go_loopw [6, 8] (fun v kk wr => ∃ k : Nat, k ≤ q.length ∧ kk = .int .i64 k ∧ Own wr w.heap.size v (accL ((prods p q).take (i * q.length + k))) ∧ Below w.heap.size w wr) (fun _ kk _ => q.length - (intOf kk).toNat)
          case atStart => exact ⟨0, by omega, rfl, HO.out, HB.out⟩
          case round =>
            obtain ⟨k, hk2, rfl, ho, hb⟩ := hrel
            clear HO HB
            have HO := Lib.hid ho
            have HB := Lib.hid hb
            clear ho hb
            by_cases hlt2 : k < q.length
            · obtain ⟨b2, o2, rfl, hb3, hc2⟩ := G.out.at_ k hlt2
              have HC2 := Lib.hid (hc2 k hlt2)
              have hsz := HB.out.size
              obtain ⟨n0, _⟩ := HC.out.2.below HB.out hb2
              obtain ⟨m0, _⟩ := HC2.out.2.below HB.out hb3
              have n0' := fun oo => (((HC.out.2.below HB.out hb2).gr (Nat.lt_of_lt_of_le hb2 hsz) ((Gr.refl wr).alloc oo))).1
              have m0' := fun oo => (((HC2.out.2.below HB.out hb3).gr (Nat.lt_of_lt_of_le hb3 hsz) ((Gr.refl wr).alloc oo))).1
              have ha := hRP.out.2 _ (nth_mem hlt)
              have hbq := hRQ.out.2 _ (nth_mem hlt2)
              have hmb := mul_bd ha.2.1 hbq.2.1
              have hw : IntKind.i64.wrap ((nth p i).n * (nth q k).n) = (nth p i).n * (nth q k).n := IntWalk.i64_in _ (by omega)
              have q4 := idxM b o p.length c (i : Int) (by omega) (by omega)
              rw [Int.toNat_natCast] at q4
              have q5 := idxM b2 o2 q.length d (k : Int) (by omega) (by omega)
              rw [Int.toNat_natCast] at q5
              clear hc2 ha hbq hmb
              go_wp2
              go_region
              clear n0 m0 n0' m0' hw
              have HNE := Lib.hid (show u6.ownBlock ≠ some wr.heap.size from fun e => by have := (World.ownsRow.lt HO.out _ e).2; omega)
              go_wp2
              obtain ⟨wo, rfl⟩ : ∃ wo : World, wo = wr := ⟨_, rfl⟩
              go_loopw [10] (fun jj wr2 => ∃ j : Nat, j ≤ 6 ∧ jj = .int .i64 j ∧ BlkM wr2 wo.heap.size ((nth p i).mulTo (nth q k) j) ∧ Own wr2 w.heap.size u6 (accL ((prods p q).take (i * q.length + k))) ∧ Below w.heap.size w wr2) (fun jj _ => 6 - (intOf jj).toNat)
              case atStart => exact ⟨0, by omega, rfl, BlkM.new wo ((nth p i).mulTo (nth q k) 0), World.ownsRow.alloc HO.out _, (HB.out.alloc hsz _).drew⟩
              case round =>
                obtain ⟨j, hj, rfl, hblk, ho, hb⟩ := hrel
                have HO2 := Lib.hid ho
                have HB2 := Lib.hid hb
                have HK := Lib.hid hblk
                clear ho hb hblk
                by_cases hlt3 : j < 6
                · have e1 := (HC.out.2.below HB2.out hb2).e hlt3
                  have e2 := (HC2.out.2.below HB2.out hb3).e hlt3
                  have e3 := HK.out.cell (1 + j) (by omega)
                  have e4 := HK.out.frozen (1 + j)
                  have q6 := idxE b (o + i * 7 + 1) j hlt3
                  have q7 := idxE b2 (o2 + k * 7 + 1) j hlt3
                  have q8 := idxE wo.heap.size 1 j hlt3
                  have ha := small_ek HC.out.1 (hRP.out.2 _ (nth_mem hlt)).2.2 j
                  have hbq := small_ek HC2.out.1 (hRQ.out.2 _ (nth_mem hlt2)).2.2 j
                  have hw : IntKind.u8.wrap ((nth p i).e j + (nth q k).e j) = (nth p i).e j + (nth q k).e j := by
                    rw [IntKind.wrap_u8]; omega
                  clear ha hbq
                  go_wp2
                  refine tail_drew 18 mo (by kernel_rfl) ?_
                  simp only [List.take_succ_cons, List.take_zero, List.drop_succ_cons, List.drop_zero]
                  repeat still_step
                  refine wpStill_nil ?_
                  go_wp2
                  go_roundw
                  case rel => exact ⟨j + 1, by omega, by go_num, HK.out.setE hlt3 _, ownsRow_setCell_other (a := ⟨wo.heap.size, 1 + j, none⟩) HO2.out HNE.out _, (HB2.out.setCell (p := ⟨wo.heap.size, 1 + j, none⟩) hsz _).drew⟩
                  case measure => simp [intOf]; omega
                · obtain rfl : j = 6 := by omega
                  obtain ⟨A1, c1, rfl⟩ := HO2.out.shape
                  have hpu := fun W hW => put_small (w := W) (A := A1) (c := c1) (base := w.heap.size) (k := i * q.length + k) hsm.out (by rw [prods_len]; exact prods_lt hlt hlt2) hW
                  rw [nth_prods hlt hlt2] at hpu
                  have HP := Lib.hid hpu
                  have hmc := HK.out.cells
                  rw [mulTo6] at hmc
                  obtain ⟨m0, m1, m2, m3, m4, m5, m6⟩ := hmc
                  have hsz2 := HB2.out.size
                  clear hpu
                  go_wp2_with fail
                  refine (HP.out _ HO2.out hsz2).mono ?_
                  rintro e W3 ⟨A3, c3, rfl, ho3, hb3⟩
                  have HO3 := Lib.hid ho3
                  clear ho3 m0 m1 m2 m3 m4 m5 m6
                  go_wp2
                  go_roundw
                  case rel => exact ⟨k + 1, by omega, by go_num, HO3.out, HB2.out.trans hb3⟩
                  case measure => simp [intOf]; omega
            · obtain rfl : k = q.length := by omega
              go_wp2
              go_roundw
              case rel => exact ⟨i + 1, by omega, by go_num, by rw [Nat.add_mul, Nat.one_mul]; exact HO.out, HB.out⟩
              case measure => simp [intOf]; omega
        · obtain rfl : i = p.length := by omega
          have ho := HO.out
          rw [List.take_of_length_le (by rw [prods_len]; exact Nat.le_refl _)] at ho
          clear HO
          obtain ⟨A1, c1, rfl⟩ := ho.shape
          have hrd := Lib.hid (ho.rd (fun m hm => by have := hsm.out.acc (prods p q).length m; rw [List.take_length] at this; exact (this hm).1))
          have hlen : (accL (prods p q)).length ≤ 4096 := by have := hsm.out.len (prods p q).length; rwa [List.take_length] at this
          clear ho
          go_wp2_with fail
          refine (whole_any A1 _ c1 _ hrd.out hlen).mono ?_
          rintro e W3 ⟨A3, c3, rfl, ho3, hb3⟩
          have HO3 := Lib.hid ho3
          clear ho3
          go_wp2
          go_ret2
          rw [hz.out]
          exact ⟨A3, c3, rfl, HO3.out.base HB.out.size, HB.out.trans (hb3.mono HB.out.size)⟩
end Go.Proofs.Ytogflbpphacokaa
