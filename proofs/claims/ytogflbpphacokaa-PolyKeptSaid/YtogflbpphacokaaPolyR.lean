/- Contracts: the document's sums and differences. -/
import Derived.StillTailTactics
import Derived.Test.YtogflbpphacokaaPolyQ
namespace Go.Proofs.Ytogflbpphacokaa
open Go.RowKit

/-- Few monomials, and small ones. -/
def Sm (ms : List Mo) : Prop := ms.length ≤ 2304 ∧ ∀ m ∈ ms, m.wf ∧ -281474976710656 ≤ m.n ∧ m.n ≤ 281474976710656
theorem Sm.acc {ms : List Mo} (h : Sm ms) (k : Nat) : ∀ x ∈ accL (ms.take k), x.wf ∧ -2305843009213693952 ≤ x.n ∧ x.n ≤ 2305843009213693952 := by
  have hl : (ms.take k).length ≤ 2304 := Nat.le_trans (by rw [List.length_take]; omega) h.1
  intro x hx
  have := wf_accL (C := 281474976710656) (by omega) (ms := ms.take k) (by omega) (fun m hm => h.2 m (List.mem_of_mem_take hm)) x hx
  exact ⟨this.1, by omega, by omega⟩
theorem Sm.len {ms : List Mo} (h : Sm ms) (k : Nat) : (accL (ms.take k)).length ≤ 4096 := by
  have := length_accL (ms.take k)
  have : (ms.take k).length ≤ ms.length := by rw [List.length_take]; omega
  have := h.1
  omega
theorem acc_step {ms : List Mo} {k : Nat} (hk : k < ms.length) : accL (ms.take (k + 1)) = putL (accL (ms.take k)) (nth ms k) := by
  rw [take_snoc hk, accL_snoc]

theorem put_small {A : Option Addr} {c base : Nat} {w : World} {ms : List Mo} {k : Nat} (hs : Sm ms) (hk : k < ms.length) (h : Own w base (.slice A (accL (ms.take k)).length c) (accL (ms.take k))) (hb : base ≤ w.heap.size) :
    Calls Try.prog 42 #[.slice A (accL (ms.take k)).length c, .agg #[.int .i64 (nth ms k).n, .int .u8 (nth ms k).e0, .int .u8 (nth ms k).e1, .int .u8 (nth ms k).e2, .int .u8 (nth ms k).e3, .int .u8 (nth ms k).e4, .int .u8 (nth ms k).e5]] w (PutRes base w (accL (ms.take (k + 1)))) := by
  rw [acc_step hk]
  have hm := hs.2 _ (nth_mem hk)
  exact put_any A _ c (nth ms k) base w h hb (hs.len k) (fun x hx => (hs.acc k x hx).1) hm.1 (fun x hx => by have := hs.acc k x hx; omega)

theorem tail_drew {P : Program} {id : Nat} {Q : Exit → Act → World → Prop} {a : Act} {w : World} {l : List Oper} (n : Nat) (hm : P.follows .mixedOrders = true) (hB : Region.lexTailB .any l.toArray n = true)
    (h : wpStill P l.toArray w.drew (fun a' => wpList P l.toArray Q (l.drop n) a' w.drew) (l.take n) a) : (Code.region id l.toArray true).wp P Q a w := wp_region_still_tail n hm hB h

theorem right_sm {p : List Mo} (h : rightB p = true) (hw : ∀ m ∈ p, m.wf) : p.length ≤ 48 ∧ ∀ m ∈ p, m.wf ∧ (-16777216 ≤ m.n ∧ m.n ≤ 16777216) ∧ m.deg ≤ 8 := by
  obtain ⟨h1, _, h3⟩ := (right_iff p).1 h
  exact ⟨h1, fun m hm => ⟨hw m hm, (h3 m hm).2⟩⟩
theorem sm_add {p q : List Mo} {t : Int} (ht : t = 1 ∨ t = -1) (hp : rightB p = true) (hq : rightB q = true) (wp : ∀ m ∈ p, m.wf) (wq : ∀ m ∈ q, m.wf) : Sm (p ++ q.map (Mo.times t)) := by
  have h1 := right_sm hp wp
  have h2 := right_sm hq wq
  refine ⟨by rw [List.length_append, List.length_map]; omega, fun m hm => ?_⟩
  rcases List.mem_append.1 hm with hm | hm
  · have := h1.2 m hm; exact ⟨this.1, by omega, by omega⟩
  · obtain ⟨x, hx, rfl⟩ := List.mem_map.1 hm
    have := h2.2 x hx
    rcases ht with rfl | rfl
    · exact ⟨⟨by show _ ≤ 1 * x.n ∧ 1 * x.n ≤ _; omega, this.1.2⟩, by show _ ≤ 1 * x.n; omega, by show 1 * x.n ≤ _; omega⟩
    · exact ⟨⟨by show _ ≤ -1 * x.n ∧ -1 * x.n ≤ _; omega, this.1.2⟩, by show _ ≤ -1 * x.n; omega, by show -1 * x.n ≤ _; omega⟩
theorem nth_app_l {p q : List Mo} {k : Nat} (h : k < p.length) : nth (p ++ q) k = nth p k := by
  unfold nth; rw [List.getD_eq_getElem?_getD, List.getD_eq_getElem?_getD, List.getElem?_append_left h]
theorem nth_app_r {p q : List Mo} {t : Int} {k : Nat} (h : k < q.length) : nth (p ++ q.map (Mo.times t)) (p.length + k) = (nth q k).times t := by
  unfold nth; rw [List.getD_eq_getElem?_getD, List.getD_eq_getElem?_getD, List.getElem?_append_right (by omega), Nat.add_sub_cancel_left, List.getElem?_map, List.getElem?_eq_getElem h]; rfl
theorem addR_no {t : Int} {p q : List Mo} (h : ¬ (rightB p = true ∧ rightB q = true)) : addR t p q = ([], 20) := if_neg h
theorem addR_yes {t : Int} {p q : List Mo} (hp : rightB p = true) (hq : rightB q = true) : addR t p q = wholeR (accL (p ++ q.map (Mo.times t))) := if_pos ⟨hp, hq⟩

set_option maxRecDepth 100000 in
set_option maxHeartbeats 1000000 in
theorem reftogether_any (A B : Option Addr) (p q : List Mo) (c d : Nat) (t : Int) (ht : t = 1 ∨ t = -1) (w : World) (h : Rd w w.heap.size A p) (g : Rd w w.heap.size B q) (hl : p.length ≤ maxLen) (hl2 : q.length ≤ maxLen) :
    Calls Try.prog 39 #[.slice A p.length c, .slice B q.length d, .int .i64 t] w (PolyRes w (addR t p q)) := by
  have H := Lib.hid h
  have G := Lib.hid g
  have HT := Lib.hid ht
  clear h g ht
  cases hp : rightB p with
  | false =>
    have hz := Lib.hid (addR_no (t := t) (p := p) (q := q) (by simp [hp]))
    go_enter Try.func39, Try.ntmps39
    go_wp2_with (go_at_call 16; refine (refright_any A p c _ H.out hl).mono ?_; rintro e W ⟨rfl, hg1⟩)
    go_ret2
    exact res_none hz.out hg1.below
  | true =>
    cases hq : rightB q with
    | false =>
      have hz := Lib.hid (addR_no (t := t) (p := p) (q := q) (by simp [hq]))
      go_enter Try.func39, Try.ntmps39
      go_wp2_with fail
      refine (refright_any A p c _ H.out hl).mono ?_
      rintro e W ⟨rfl, hg1⟩
      go_wp2_with fail
      refine (refright_any B q d _ (G.out.gr hg1) hl2).mono ?_
      rintro e W2 ⟨rfl, hg2⟩
      go_wp2
      go_ret2
      exact res_none hz.out (hg1.trans hg2).below
    | true =>
      have hz := Lib.hid (addR_yes (t := t) hp hq)
      have hsm := Lib.hid (sm_add HT.out hp hq H.out.1 G.out.1)
      have hpl : p.length ≤ 48 := (right_sm hp H.out.1).1
      have hql : q.length ≤ 48 := (right_sm hq G.out.1).1
      go_enter Try.func39, Try.ntmps39
      go_wp2_with fail
      refine (refright_any A p c _ H.out hl).mono ?_
      rintro e W ⟨rfl, hg1⟩
      go_wp2_with fail
      refine (refright_any B q d _ (G.out.gr hg1) hl2).mono ?_
      rintro e W2 ⟨rfl, hg2⟩
      have HW2 := Lib.hid ((hg1.trans hg2).below)
      clear hg1 hg2
      go_wp2
      go_loopw [8, 9] (fun v i wr => ∃ k : Nat, k ≤ p.length ∧ i = .int .i64 k ∧ Own wr w.heap.size v (accL ((p ++ q.map (Mo.times t)).take k)) ∧ Below w.heap.size w wr) (fun _ i _ => p.length - (intOf i).toNat)
      case atStart => exact ⟨0, by omega, rfl, Own.nil _ _, HW2.out⟩
      case round =>
        rename_i v _
        obtain ⟨k, hk, rfl, ho, hb⟩ := hrel
        have HO := Lib.hid ho
        have HB := Lib.hid hb
        clear ho hb HW2
        by_cases hlt : k < p.length
        · obtain ⟨b, o, rfl, hb2, hc⟩ := H.out.at_ k hlt
          obtain ⟨n0, n1, n2, n3, n4, n5, n6⟩ := (hc k hlt).2.below HB.out hb2
          obtain ⟨A1, c1, rfl⟩ := HO.out.shape
          have hpu := fun W hW => put_small (w := W) (A := A1) (c := c1) (base := w.heap.size) (k := k) hsm.out (by rw [List.length_append]; omega) hW
          rw [nth_app_l hlt] at hpu
          have HP := Lib.hid hpu
          have hsz := HB.out.size
          clear hc hpu
          go_wp2_with fail
          refine (HP.out _ HO.out hsz).mono ?_
          rintro e W3 ⟨A3, c3, rfl, ho3, hb3⟩
          have HO3 := Lib.hid ho3
          clear ho3
          go_wp2
          go_roundw
          case rel => exact ⟨k + 1, by omega, by go_num, HO3.out, HB.out.trans hb3⟩
          case measure => simp [intOf]; omega
        · obtain rfl : k = p.length := by omega
          go_wp2
          go_loopw [8, 10] (fun v i wr => ∃ k : Nat, k ≤ q.length ∧ i = .int .i64 k ∧ Own wr w.heap.size v (accL ((p ++ q.map (Mo.times t)).take (p.length + k))) ∧ Below w.heap.size w wr) (fun _ i _ => q.length - (intOf i).toNat)
          case atStart => exact ⟨0, by omega, rfl, HO.out, HB.out⟩
          case round =>
            rename_i v _
            obtain ⟨k, hk, rfl, ho, hb⟩ := hrel
            clear HO HB
            have HO := Lib.hid ho
            have HB := Lib.hid hb
            clear ho hb
            by_cases hlt : k < q.length
            · obtain ⟨b, o, rfl, hb2, hc⟩ := G.out.at_ k hlt
              obtain ⟨n0, n1, n2, n3, n4, n5, n6⟩ := (hc k hlt).2.below HB.out hb2
              obtain ⟨A1, c1, rfl⟩ := HO.out.shape
              have hpu := fun W hW => put_small (w := W) (A := A1) (c := c1) (base := w.heap.size) (k := p.length + k) hsm.out (by rw [List.length_append, List.length_map]; omega) hW
              rw [nth_app_r hlt] at hpu
              have HP := Lib.hid hpu
              have hsz := HB.out.size
              have q4 := idxM b o q.length d (k : Int) (by omega) (by omega)
              rw [Int.toNat_natCast] at q4
              have hrng := hsm.out.2 _ (nth_mem (l := p ++ q.map (Mo.times t)) (k := p.length + k) (by rw [List.length_append, List.length_map]; omega))
              rw [nth_app_r hlt] at hrng
              have hw : IntKind.i64.wrap (t * (nth q k).n) = t * (nth q k).n := IntWalk.i64_in _ hrng.1.1
              clear hc hpu hrng
              go_wp2
              refine tail_drew 14 mixedOrders (by kernel_rfl) ?_
              simp only [List.take_succ_cons, List.take_zero, List.drop_succ_cons, List.drop_zero]
              repeat still_step
              refine wpStill_nil ?_
              go_wp2_with fail
              refine (HP.out wr.drew (World.ownsRow.drew HO.out) hsz).mono ?_
              rintro e W3 ⟨A3, c3, rfl, ho3, hb3⟩
              have HO3 := Lib.hid ho3
              clear ho3
              go_wp2
              go_roundw
              case rel => exact ⟨k + 1, by omega, by go_num, HO3.out, HB.out.drew.trans hb3⟩
              case measure => simp [intOf]; omega
            · obtain rfl : k = q.length := by omega
              have ho := HO.out
              rw [List.take_of_length_le (by rw [List.length_append, List.length_map]; exact Nat.le_refl _)] at ho
              clear HO
              obtain ⟨A1, c1, rfl⟩ := ho.shape
              have hrd := Lib.hid (ho.rd (fun m hm => by have := hsm.out.acc (p ++ q.map (Mo.times t)).length m; rw [List.take_length] at this; exact (this hm).1))
              have hlen : (accL (p ++ q.map (Mo.times t))).length ≤ 4096 := by have := hsm.out.len (p ++ q.map (Mo.times t)).length; rwa [List.take_length] at this
              clear ho
              go_wp2_with fail
              refine (whole_any A1 _ c1 _ hrd.out hlen).mono ?_
              rintro e W3 ⟨A3, c3, rfl, ho3, hb3⟩
              have HO3 := Lib.hid ho3
              clear ho3
              go_wp2
              go_ret2
              rw [hz.out]
              exact ⟨A3, c3, rfl, HO3.out.base HB.out.size, HB.out.trans (hb3.mono HB.out.size)⟩
end Go.Proofs.Ytogflbpphacokaa
