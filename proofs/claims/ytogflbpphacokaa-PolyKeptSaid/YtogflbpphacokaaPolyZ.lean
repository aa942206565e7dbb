/- Contracts: sums and differences of package poly. -/
import Derived.Test.YtogflbpphacokaaPolyY
namespace Go.Proofs.Ytogflbpphacokaa
open Go.RowKit

theorem coef_bd {C : Int} (hC : 0 ≤ C) {l : List Mo} (h : ∀ m ∈ l, -C ≤ m.n ∧ m.n ≤ C) (c : Int) : -(C * l.length) ≤ coef l c ∧ coef l c ≤ C * l.length := by
  induction l with
  | nil => simp [coef, lin]
  | cons a t ih =>
    have ih := ih (fun m hm => h m (by simp [hm]))
    have ha := h a (by simp)
    rw [coef_cons, List.length_cons, show ((t.length + 1 : Nat) : Int) = (t.length : Int) + 1 from by omega, Int.mul_add, Int.mul_one]
    split <;> omega
theorem Sm.coef {ms : List Mo} (h : Sm ms) (k : Nat) (c : Int) : -648518346341351424 ≤ coef (ms.take k) c ∧ coef (ms.take k) c ≤ 648518346341351424 := by
  have h1 := coef_bd (C := 281474976710656) (by omega) (l := ms.take k) (fun m hm => (h.2 m (List.mem_of_mem_take hm)).2) c
  have h2 : (ms.take k).length ≤ 2304 := Nat.le_trans (by rw [List.length_take]; omega) h.1
  omega
theorem coef_next {ms : List Mo} {k : Nat} (hk : k < ms.length) : coef (ms.take (k + 1)) = fun c => if c = (nth ms k).code then coef (ms.take k) (nth ms k).code + (nth ms k).n else coef (ms.take k) c := by
  funext c
  rw [take_snoc hk, coef_snoc]
  by_cases h : c = (nth ms k).code
  · subst h; rw [if_pos rfl, if_pos rfl]
  · rw [if_neg h, if_neg (fun e => h e.symm), Int.add_zero]
theorem i64_wf {x : Int} (h : -9223372036854775808 ≤ x ∧ x ≤ 9223372036854775807) : (Lit.int .i64 x).wf = true := by
  have h1 : IntKind.i64.min = -9223372036854775808 := rfl
  have h2 : IntKind.i64.max = 9223372036854775807 := rfl
  simp only [Lit.wf, Bool.and_eq_true, decide_eq_true_eq]
  omega
/-- The entry alone, ahead of the store: the map reads as before. -/
theorem entry_first {w : World} {b n : Nat} {c : Int → Int} (h : MapC w b n c) (hn : n < maxLen) {m : Mo} (hm : m.wf) : ∃ v1 w1, (Instr.mapEntry 51 (.map (some b)) (.agg #[.int .u8 m.e0, .int .u8 m.e1, .int .u8 m.e2, .int .u8 m.e3, .int .u8 m.e4, .int .u8 m.e5])).run Try.prog w = .ok v1 w1 ∧ MapC w1 b (n + 1) c ∧ w.grownBy w1 (some b) := by
  obtain ⟨D, hown, hmap, h2⟩ := h
  have hown0 := hown
  have hkey := keyOf_mk hm
  obtain ⟨es, clock, hb, F, hs, hD⟩ := hown
  rcases keyLaw.find w hkey es.toList F.keys with ⟨h1, h3⟩ | ⟨j, e0, h1, h3, h4⟩
  · obtain ⟨w', hrun, hown', hgr⟩ := hown0.update keyed Try.underlying51 hn hkey (plainElem_int (H := Unit) (a := 0) Try.underlying2 (i64_wf (by omega)))
    have e1 : (Instr.mapEntry 51 (.map (some b)) (.agg #[.int .u8 m.e0, .int .u8 m.e1, .int .u8 m.e2, .int .u8 m.e3, .int .u8 m.e4, .int .u8 m.e5])).run Try.prog w = .ok (.tuple #[.int .i64 0, goInt clock]) (ChangeMaps.setBlock w b (.map (es.push ⟨.agg #[.int .u8 m.e0, .int .u8 m.e1, .int .u8 m.e2, .int .u8 m.e3, .int .u8 m.e4, .int .u8 m.e5], .int .i64 0, clock⟩) (clock + 1))) := by
      simp [Instr.mapEntry, run_underlying Try.underlying51, MapKept.run_getObj_map hb, keyLaw.check w false hkey, h1, MapKept.run_setObj_map _ hb, Result.andThen, ChangeMaps.setBlock]
    have e2 : (Instr.mapUpdate 51 (.map (some b)) (.agg #[.int .u8 m.e0, .int .u8 m.e1, .int .u8 m.e2, .int .u8 m.e3, .int .u8 m.e4, .int .u8 m.e5]) (.int .i64 0)).run Try.prog w = .ok () (ChangeMaps.setBlock w b (.map (es.push ⟨.agg #[.int .u8 m.e0, .int .u8 m.e1, .int .u8 m.e2, .int .u8 m.e3, .int .u8 m.e4, .int .u8 m.e5], .int .i64 0, clock⟩) (clock + 1))) := by
      simp [Instr.mapUpdate, run_underlying Try.underlying51, MapKept.run_getObj_map hb, keyLaw.check w false hkey, h1, MapKept.run_setObj_map _ hb, Result.andThen, ChangeMaps.setBlock]
    have hw : w' = ChangeMaps.setBlock w b (.map (es.push ⟨.agg #[.int .u8 m.e0, .int .u8 m.e1, .int .u8 m.e2, .int .u8 m.e3, .int .u8 m.e4, .int .u8 m.e5], .int .i64 0, clock⟩) (clock + 1)) := by
      rw [hrun] at e2; injection e2
    refine ⟨_, _, e1, ?_⟩
    rw [← hw]
    refine ⟨⟨_, hown', hown'.isMap, fun m' hm' => ?_⟩, hgr⟩
    by_cases he : m'.code = m.code
    · rw [KL_of hm' hm he, Maps.atKey_put_same hmap (keyed.key hkey)]
      have hlk := MapC.lookup ⟨D, hown0, hmap, h2⟩ hm
      have hz : c m.code = 0 := by
        have : (Instr.lookup 51 (.map (some b)) (.agg #[.int .u8 m.e0, .int .u8 m.e1, .int .u8 m.e2, .int .u8 m.e3, .int .u8 m.e4, .int .u8 m.e5]) false).run Try.prog w = .ok (.int .i64 0) w := by
          have hem : (Instr.checkKey es.isEmpty 10000 52 (.agg #[.int .u8 m.e0, .int .u8 m.e1, .int .u8 m.e2, .int .u8 m.e3, .int .u8 m.e4, .int .u8 m.e5])).run Try.prog w = .ok () w := keyLaw.check w _ hkey
          simp [Instr.lookup, run_underlying Try.underlying51, MapKept.run_getObj_map hb, hem, h1, Result.andThen]
        rw [hlk] at this
        injection this with this
        injection this with _ this
      rw [he, hz]
    · rw [Maps.atKey_put_other (fun e => he (KL_inj hm' hm e)), h2 m' hm']
  · have hj : es[j]? = some e0 := by simpa using h3
    have hsame : es.modify j (fun e => { e with key := .agg #[.int .u8 m.e0, .int .u8 m.e1, .int .u8 m.e2, .int .u8 m.e3, .int .u8 m.e4, .int .u8 m.e5] }) = es := by
      apply Array.ext'
      rw [Array.toList_modify, ChangeMaps.modify_eq_set _ _ _ _ h3]
      have : ({ e0 with key := .agg #[.int .u8 m.e0, .int .u8 m.e1, .int .u8 m.e2, .int .u8 m.e3, .int .u8 m.e4, .int .u8 m.e5] } : MapEntry) = e0 := by rw [← h4]
      rw [this]
      exact WideElems.set_self _ _ _ h3
    refine ⟨.tuple #[e0.val, goInt e0.born], ChangeMaps.setBlock w b (.map es clock), ?_, ⟨D, ⟨es, clock, ChangeMaps.heap_setBlock_same hb _, F, by omega, hD⟩, hmap, h2⟩, ⟨rfl, rfl, rfl, by simp [ChangeMaps.setBlock], fun i _ hi => ChangeMaps.heap_setBlock_other hb _ (fun e => hi (by rw [e]))⟩⟩
    simp [Instr.mapEntry, run_underlying Try.underlying51, MapKept.run_getObj_map hb, keyLaw.check w false hkey, h1, hj, h4, keyLaw.stays w hkey, hsame, MapKept.run_setObj_map _ hb, Result.andThen, ChangeMaps.setBlock]
/-- One monomial more in the map. -/
theorem map_step {w : World} {b k : Nat} {ms : List Mo} (h : MapC w b k (coef (ms.take k))) (hs : Sm ms) (hk : k < ms.length) {m : Mo} (hm : nth ms k = m) :
    IntKind.i64.wrap (coef (ms.take k) m.code + m.n) = coef (ms.take k) m.code + m.n ∧ (Instr.lookup 51 (.map (some b)) (.agg #[.int .u8 m.e0, .int .u8 m.e1, .int .u8 m.e2, .int .u8 m.e3, .int .u8 m.e4, .int .u8 m.e5]) false).run Try.prog w = .ok (.int .i64 (coef (ms.take k) m.code)) w ∧
    ∃ (v0 : Value) (st : Nat) (w1 w2 : World), (Instr.mapEntry 51 (.map (some b)) (.agg #[.int .u8 m.e0, .int .u8 m.e1, .int .u8 m.e2, .int .u8 m.e3, .int .u8 m.e4, .int .u8 m.e5])).run Try.prog w = .ok (.tuple #[v0, .int .i64 st]) w1 ∧ (Instr.entryStore 51 (.map (some b)) (.int .i64 st) (.int .i64 (coef (ms.take k) m.code + m.n))).run Try.prog w1 = .ok () w2 ∧
      (Instr.lookup 51 (.map (some b)) (.agg #[.int .u8 m.e0, .int .u8 m.e1, .int .u8 m.e2, .int .u8 m.e3, .int .u8 m.e4, .int .u8 m.e5]) false).run Try.prog w1 = .ok (.int .i64 (coef (ms.take k) m.code)) w1 ∧ w.grownBy w1 (some b) ∧ MapC w2 b (k + 1) (coef (ms.take (k + 1))) ∧ w.grownBy w2 (some b) := by
  subst hm
  have hmw := hs.2 _ (nth_mem hk)
  have hb := hs.coef k (nth ms k).code
  have hr : -9223372036854775808 ≤ coef (ms.take k) (nth ms k).code + (nth ms k).n ∧ coef (ms.take k) (nth ms k).code + (nth ms k).n ≤ 9223372036854775807 := by omega
  refine ⟨IntWalk.i64_in _ hr, h.lookup hmw.1, ?_⟩
  have hml : k < maxLen := by have := hs.1; unfold maxLen; omega
  obtain ⟨v1, w1', e1', hm1, hg1⟩ := entry_first h hml hmw.1
  rw [coef_next hk]
  obtain ⟨v0, st, w1, w2, e1, e2, h3, h4⟩ := h.add hml hmw.1 (i64_wf hr)
  have hw : w1' = w1 := by rw [e1] at e1'; injection e1' with _ e; exact e.symm
  subst hw
  exact ⟨v0, st, w1', w2, e1, e2, hm1.lookup hmw.1, hg1, h3, h4⟩

set_option maxRecDepth 100000 in
set_option maxHeartbeats 1000000 in
theorem sum_any (A B : Option Addr) (p q : List Mo) (c d : Nat) (t : Int) (ht : t = 1 ∨ t = -1) (w : World) (h : Rd w w.heap.size A p) (g : Rd w w.heap.size B q) (hl : p.length ≤ maxLen) (hl2 : q.length ≤ maxLen) :
    Calls Try.prog 38 #[.slice A p.length c, .slice B q.length d, .int .i64 t] w (PolyRes w (addR t p q)) := by
  have H := Lib.hid h
  have G := Lib.hid g
  have HT := Lib.hid ht
  have hmm := @run_makeMap Try.prog
  clear h g ht
  cases hp : rightB p with
  | false =>
    have hz := Lib.hid (addR_no (t := t) (p := p) (q := q) (by simp [hp]))
    go_enter Try.func38, Try.ntmps38
    go_wp2_with (go_at_call 13; refine (right_any A p c _ H.out hl).mono ?_; rintro e W ⟨rfl, hg1⟩)
    go_ret2
    exact res_none hz.out hg1.below
  | true =>
    cases hq : rightB q with
    | false =>
      have hz := Lib.hid (addR_no (t := t) (p := p) (q := q) (by simp [hq]))
      go_enter Try.func38, Try.ntmps38
      go_wp2_with fail
      refine (right_any A p c _ H.out hl).mono ?_
      rintro e W ⟨rfl, hg1⟩
      go_wp2_with fail
      refine (right_any B q d _ (G.out.gr hg1) hl2).mono ?_
      rintro e W2 ⟨rfl, hg2⟩
      go_wp2
      go_ret2
      exact res_none hz.out (hg1.trans hg2).below
    | true =>
      have hz := Lib.hid (show addR t p q = polyOf (p ++ q.map (Mo.times t)) from if_pos ⟨hp, hq⟩)
      have hsm := Lib.hid (sm_add HT.out hp hq H.out.1 G.out.1)
      have hpl : p.length ≤ 48 := (right_sm hp H.out.1).1
      have hql : q.length ≤ 48 := (right_sm hq G.out.1).1
      have mo := mixedOrders
      go_enter Try.func38, Try.ntmps38
      go_wp2_with fail
      refine (right_any A p c _ H.out hl).mono ?_
      rintro e W ⟨rfl, hg1⟩
      go_wp2_with fail
      refine (right_any B q d _ (G.out.gr hg1) hl2).mono ?_
      rintro e W2 ⟨rfl, hg2⟩
      have HW2 := Lib.hid ((hg1.trans hg2).below)
      have hbW : w.heap.size ≤ W2.heap.size := HW2.out.size
      clear hg1 hg2
      go_wp2
      go_loopw [24] (fun i wr => ∃ k : Nat, k ≤ p.length ∧ i = .int .i64 k ∧ MapC wr W2.heap.size k (coef ((p ++ q.map (Mo.times t)).take k)) ∧ Below w.heap.size w wr) (fun i _ => p.length - (intOf i).toNat)
      case atStart => exact ⟨0, by omega, rfl, MapC.made W2, HW2.out.alloc hbW _⟩
      case round =>
        obtain ⟨k, hk, rfl, hmap, hb⟩ := hrel
        have HM := Lib.hid hmap
        have HB := Lib.hid hb
        have hsz := HB.out.size
        clear hmap hb
        by_cases hlt : k < p.length
        · obtain ⟨b, o, rfl, hb2, hc⟩ := H.out.at_ k hlt
          obtain ⟨n0, n1, n2, n3, n4, n5, n6⟩ := (hc k hlt).2.below HB.out hb2
          obtain ⟨hw, hlk, v0, st, w1, w2, e1, e2, hlk1, _, hmap2, hgr2⟩ := map_step (w := (wr.alloc (.cells #[.int .i64 (nth p k).n, .int .u8 (nth p k).e0, .int .u8 (nth p k).e1, .int .u8 (nth p k).e2, .int .u8 (nth p k).e3, .int .u8 (nth p k).e4, .int .u8 (nth p k).e5] 44)).drew) ((HM.out.gr ((Gr.refl wr).alloc _)).gr ((Gr.refl _).drew)) hsm.out (by rw [List.length_append]; omega) (nth_app_l hlt)
          have HM2 := Lib.hid hmap2
          have HG2 := Lib.hid hgr2
          clear hmap2 hgr2 hc
          go_wp2
          go_region
          go_wp2
          go_roundw
          case rel => exact ⟨k + 1, by omega, by go_num, HM2.out, ((HB.out.alloc hsz _).drew).grown HG2.out (by simp; omega) (fun j hj => by cases hj; exact hbW)⟩
          case measure => simp [intOf]; omega
        · obtain rfl : k = p.length := by omega
          go_wp2
          go_loopw [40] (fun i wr => ∃ k : Nat, k ≤ q.length ∧ i = .int .i64 k ∧ MapC wr W2.heap.size (p.length + k) (coef ((p ++ q.map (Mo.times t)).take (p.length + k))) ∧ Below w.heap.size w wr) (fun i _ => q.length - (intOf i).toNat)
          case atStart => exact ⟨0, by omega, rfl, HM.out, HB.out⟩
          case round =>
            obtain ⟨k, hk, rfl, hmap, hb⟩ := hrel
            clear HM HB hsz
            have HM := Lib.hid hmap
            have HB := Lib.hid hb
            have hsz := HB.out.size
            clear hmap hb
            by_cases hlt : k < q.length
            · obtain ⟨b, o, rfl, hb2, hc⟩ := G.out.at_ k hlt
              obtain ⟨n0, n1, n2, n3, n4, n5, n6⟩ := (hc k hlt).2.below HB.out hb2
              have hlen : p.length + k < (p ++ q.map (Mo.times t)).length := by rw [List.length_append, List.length_map]; omega
              have hrng := hsm.out.2 _ (nth_mem hlen)
              rw [nth_app_r hlt] at hrng
              have hw1 : IntKind.i64.wrap (t * (nth q k).n) = t * (nth q k).n := IntWalk.i64_in _ hrng.1.1
              obtain ⟨hw, hlk, v0, st, w1, w2, e1, e2, hlk1, _, hmap2, hgr2⟩ := map_step (w := (wr.alloc (.cells #[.int .i64 (nth q k).n, .int .u8 (nth q k).e0, .int .u8 (nth q k).e1, .int .u8 (nth q k).e2, .int .u8 (nth q k).e3, .int .u8 (nth q k).e4, .int .u8 (nth q k).e5] 44)).drew) ((HM.out.gr ((Gr.refl wr).alloc _)).gr ((Gr.refl _).drew)) hsm.out hlen (nth_app_r hlt)
              have HM2 := Lib.hid hmap2
              have HG2 := Lib.hid hgr2
              clear hmap2 hgr2 hc hrng
              change IntKind.i64.wrap (coef ((p ++ q.map (Mo.times t)).take (p.length + k)) (nth q k).code + t * (nth q k).n) = coef ((p ++ q.map (Mo.times t)).take (p.length + k)) (nth q k).code + t * (nth q k).n at hw
              change (Instr.lookup 51 (.map (some W2.heap.size)) (.agg #[.int .u8 (nth q k).e0, .int .u8 (nth q k).e1, .int .u8 (nth q k).e2, .int .u8 (nth q k).e3, .int .u8 (nth q k).e4, .int .u8 (nth q k).e5]) false).run Try.prog _ = .ok (.int .i64 (coef ((p ++ q.map (Mo.times t)).take (p.length + k)) (nth q k).code)) _ at hlk hlk1
              change (Instr.mapEntry 51 (.map (some W2.heap.size)) (.agg #[.int .u8 (nth q k).e0, .int .u8 (nth q k).e1, .int .u8 (nth q k).e2, .int .u8 (nth q k).e3, .int .u8 (nth q k).e4, .int .u8 (nth q k).e5])).run Try.prog _ = _ at e1
              change (Instr.entryStore 51 (.map (some W2.heap.size)) (.int .i64 st) (.int .i64 (coef ((p ++ q.map (Mo.times t)).take (p.length + k)) (nth q k).code + t * (nth q k).n))).run Try.prog _ = _ at e2
              go_wp2
              go_region
              go_wp2
              go_roundw
              case rel => exact ⟨k + 1, by omega, by go_num, HM2.out, ((HB.out.alloc hsz _).drew).grown HG2.out (by simp; omega) (fun j hj => by cases hj; exact hbW)⟩
              case measure => simp [intOf]; omega
            · obtain rfl : k = q.length := by omega
              have hm := HM.out
              rw [List.take_of_length_le (by rw [List.length_append, List.length_map]; exact Nat.le_refl _)] at hm
              have HM3 := Lib.hid hm
              have hns : p.length + q.length ≤ 2304 := by omega
              clear hm
              go_wp2_with fail
              refine (polynomial_any _ _ _ _ HM3.out hsm.out hns).mono ?_
              rintro e W3 ⟨A3, c3, rfl, ho3, hb3⟩
              have HO3 := Lib.hid ho3
              clear ho3
              go_wp2
              go_ret2
              rw [hz.out]
              exact ⟨A3, c3, rfl, HO3.out.base HB.out.size, HB.out.trans (hb3.mono HB.out.size)⟩
end Go.Proofs.Ytogflbpphacokaa
