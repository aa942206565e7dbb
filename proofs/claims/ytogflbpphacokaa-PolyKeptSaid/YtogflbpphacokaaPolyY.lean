/- Contract: terms.polynomial: the polynomial of a map. -/
import Derived.Shelf.SlSortCmp.NoneTotal
import Derived.Test.YtogflbpphacokaaPolyX
namespace Go.Proofs.Ytogflbpphacokaa
open Go.RowKit

/-- The next entry of the map. -/
theorem poly_next (w : World) {ops : Array Oper} {rest : List Oper} {o : Oper} {a : Act} {Q : Exit → Act → World → Prop} (hg : o.guard = none) (it : Operand) (hop : o.op = Op.next it false) (b r n : Nat) (D : DataW Unit) (left : Lit → Bool) (cnt : Nat)
    (hit : a.eval it = .pointer (some ⟨r, 0, none⟩)) (h : w.ranges Try.prog 52 (plainElem Try.prog 2) b r n D left cnt)
    (hDone : cnt = 0 → (∀ kl, left kl = false) → wpList Try.prog ops Q rest (a.put o.dst (.tuple #[.bool false])) w)
    (hMore : ∀ (x : Mo) (w' : World) (cnt' : Nat), x.wf → left (KL x) = true → D.atKey (KL x) (.lit (.int .i64 0)) = .lit (.int .i64 x.n) → w'.ranges Try.prog 52 (plainElem Try.prog 2) b r n D (fun z => left z && !z.sameKey (KL x)) cnt' → cnt' < cnt →
      w.grownBy w' (some r) → w'.heap.size = w.heap.size → (Instr.entry (.pointer (some ⟨r, 0, none⟩))).run Try.prog w' = .ok (.tuple #[.agg #[.int .u8 x.e0, .int .u8 x.e1, .int .u8 x.e2, .int .u8 x.e3, .int .u8 x.e4, .int .u8 x.e5], .int .i64 x.n]) w' → wpList Try.prog ops Q rest (a.put o.dst (.tuple #[.bool true, .agg #[.int .u8 x.e0, .int .u8 x.e1, .int .u8 x.e2, .int .u8 x.e3, .int .u8 x.e4, .int .u8 x.e5], .int .i64 x.n])) w') :
    wpList Try.prog ops Q (o :: rest) a w :=
  wpList_next_ranges w hg it hop 52 keyed (plainElem Try.prog 2) (fun m : Mo => .agg #[.int .u8 m.e0, .int .u8 m.e1, .int .u8 m.e2, .int .u8 m.e3, .int .u8 m.e4, .int .u8 m.e5]) (Value.int .i64) (fun key kl hkey => by obtain ⟨x, _, _, rfl, _⟩ := keyOf_inv hkey; exact ⟨x, rfl⟩) (fun v y hv => by obtain ⟨c, rfl, _⟩ := plainElem_int_inv Try.underlying2 hv; exact ⟨c, rfl⟩)
    b r n D left cnt hit h hDone (fun x c kl y w' cnt' hkey hlk hv hat hrg hlt hgr hsz hen => by
      obtain ⟨m, hm, _, e, rfl⟩ := keyOf_inv hkey
      injection e with e
      injection e with e
      simp at e
      obtain ⟨e0, e1, e2, e3, e4, e5⟩ := e
      obtain ⟨c', ec, rfl, hwc⟩ := plainElem_int_inv Try.underlying2 hv
      injection ec with _ ec
      subst ec
      have hx : ({ m with n := c } : Mo).wf := ⟨by
        have h1 : IntKind.i64.min = -9223372036854775808 := rfl
        have h2 : IntKind.i64.max = 9223372036854775807 := rfl
        simp only [Lit.wf, Bool.and_eq_true, decide_eq_true_eq] at hwc
        show -9223372036854775808 ≤ c ∧ c ≤ 9223372036854775807
        omega, hm.2⟩
      rw [e0, e1, e2, e3, e4, e5] at hen ⊢
      exact hMore { m with n := c } w' cnt' hx hlk (hat _) hrg hlt hgr hsz hen)
theorem Cells7.box2 (w : World) (m : Mo) : Cells7 ((w.alloc (.cells #[.int .u8 m.e0, .int .u8 m.e1, .int .u8 m.e2, .int .u8 m.e3, .int .u8 m.e4, .int .u8 m.e5] 52)).alloc (.cells #[.int .i64 m.n, .int .u8 m.e0, .int .u8 m.e1, .int .u8 m.e2, .int .u8 m.e3, .int .u8 m.e4, .int .u8 m.e5] 44)) (w.heap.size + 1) 0 m := by
  have h := Cells7.box (w.alloc (.cells #[.int .u8 m.e0, .int .u8 m.e1, .int .u8 m.e2, .int .u8 m.e3, .int .u8 m.e4, .int .u8 m.e5] 52)) m
  rwa [show (w.alloc (.cells #[.int .u8 m.e0, .int .u8 m.e1, .int .u8 m.e2, .int .u8 m.e3, .int .u8 m.e4, .int .u8 m.e5] 52)).heap.size = w.heap.size + 1 from by simp] at h
theorem poly_below {w wr w1 w2 : World} {o1 o2 : Obj} {row : Option Nat} (hb : Below w.heap.size w wr) (hg : wr.grownBy w1 (some w.heap.size)) (hl : w.heap.size < wr.heap.size) (hs : w1.heap.size = wr.heap.size) (hg2 : ((w1.alloc o1).alloc o2).grownBy w2 row) (hr : ∀ k, row = some k → w.heap.size ≤ k) : Below w.heap.size w w2 := by
  have h1 : Below w.heap.size w w1 := hb.grown hg hb.size (fun k hk => by cases hk; exact Nat.le_refl _)
  have h2 : w.heap.size ≤ w1.heap.size := by omega
  exact ((h1.alloc h2 o1).alloc (by simp; omega) o2).grown hg2 (by simp; omega) hr
theorem Own.ne_iter {w : World} {base r : Nat} {v : Value} {l : List Mo} (h : Own w (base + 1) v l) (hr : r ≤ base) : v.ownBlock ≠ some r := fun e => by
  have := (World.ownsRow.lt h r e).1; omega

theorem perm_of {d d' : Array WMo} (h : Go.Sort.PermIn 0 d.size d d') : (bare d'.toList).Perm (bare d.toList) := by
  obtain ⟨hs, _, hp⟩ := h
  have e : ∀ x : Array WMo, x.size = d.size → x.extract 0 d.size = x := fun x hx => by rw [← hx]; simp
  rw [e d' hs, e d rfl] at hp
  exact hp.map _
theorem fall_sorted {d : Array WMo} {n : Nat} (hn : d.size = n) (hs : Go.Sort.SortedIn (ltOf cfW) 0 n d) (hd : (bare d.toList).Pairwise fun a b => a.code ≠ b.code) : Fall (bare d.toList) := by
  subst hn
  refine fall_of fun k hk => ?_
  rw [bare_len] at hk
  have h1 := hs k (k + 1) (Nat.zero_le _) (by omega) hk
  rw [ltW] at h1
  rw [nth_bare d _ hk, nth_bare d _ (by omega)]
  have h2 : (d[k]!).val.code ≠ (d[k + 1]!).val.code := by
    have := List.pairwise_iff_getElem.1 hd k (k + 1) (by rw [bare_len]; omega) (by rw [bare_len]; omega) (by omega)
    rw [← nth_bare d _ hk, ← nth_bare d k (by omega)]
    unfold nth
    rw [List.getD_eq_getElem?_getD, List.getD_eq_getElem?_getD, List.getElem?_eq_getElem (by rw [bare_len]; omega), List.getElem?_eq_getElem (by rw [bare_len]; omega)]
    exact this
  simp at h1
  omega
/-- Behind the sort: what is returned. -/
theorem sort_done {w W : World} {base g c k : Nat} {L ms : List Mo} {d d' : Array WMo} {os : Array Obj} {D : DataW Unit} {left : Lit → Bool} {cnt : Nat} (hO : Own W base (.slice (some ⟨g, 0, none⟩) L.length c) L) (hd : bare d.toList = L) (hp : Go.Sort.PermIn 0 d.size d d') (hs : Go.Sort.SortedIn (ltOf cfW) 0 d.size d')
    (hB : Below base w W) (hg : base ≤ g) (hgl : g < W.heap.size) (hP : PInv D left cnt L) (hl : ∀ kl, left kl = false) (hms : Sm ms) (hD : ∀ m : Mo, m.wf → D.atKey (KL m) (.lit (.int .i64 0)) = .lit (.int .i64 (coef ms m.code))) :
    L.length = (sumL ms).length ∧ Own (sortWorldK encW 7 W g 0 k d' os) base (.slice (some ⟨g, 0, none⟩) L.length c) (sumL ms) ∧ Below base w (sortWorldK encW 7 W g 0 k d' os) := by
  have hlen : d.size = L.length := by rw [← hd, bare_len]
  have hsz : d'.size = d.size := hp.1
  have hperm := perm_of hp
  rw [hd] at hperm
  have hne : (bare d'.toList).Pairwise fun a b => a.code ≠ b.code := (hperm.pairwise_iff (fun {a b} (h : a.code ≠ b.code) => h.symm)).2 hP.apart
  have he : bare d'.toList = sumL ms := poly_canon hms (fun x hx => ⟨(hP.each x hx).1, (hP.each x hx).2.1⟩) hperm (fall_sorted hsz hs hne) (hP.done hl (fun m hm => (hms.2 m hm).1) hD)
  refine ⟨by rw [← he, bare_len, hsz, hlen], ?_, ?_⟩
  · rw [← he]; exact own_sorted hO rfl (hsz.trans hlen)
  · exact hB.trans (below_sorted hg hgl)

set_option maxRecDepth 100000 in
set_option maxHeartbeats 1000000 in
theorem polynomial_any (b n : Nat) (ms : List Mo) (w : World) (h : MapC w b n (coef ms)) (hs : Sm ms) (hn : n ≤ 2304) :
    Calls Try.prog 41 #[.map (some b)] w (PolyRes w (polyOf ms)) := by
  obtain ⟨i0, hi, hz0, hz1, hz2⟩ := info_parts info44
  have hbl := h.lt
  obtain ⟨D, hown, _, hD⟩ := h
  have HSZ := Lib.hid (size_le hown)
  have HD := Lib.hid hD
  have HS := Lib.hid hs
  have HI := Lib.hid (And.intro hi (And.intro hz0 (And.intro hz1 hz2)))
  clear hi hz0 hz1 hz2 hD hs
  go_enter Try.func41, Try.ntmps41
  go_wp2_with (first
    | (at_range; refine wpList_range_own _ rfl _ 51 rfl 52 2 keyed Try.underlying51 _ b n _ rfl hown ?_; intro w0 hrg0 hg0 hs0)
    | go_in)
  go_frame
  have HG0 := Lib.hid hg0
  have HS0 := Lib.hid hs0
  clear hg0 hs0
  go_loopw [4] (fun v wr => ∃ (left : Lit → Bool) (cnt : Nat) (L : List Mo), wr.ranges Try.prog 52 (plainElem Try.prog 2) b w.heap.size n D left cnt ∧ Own wr (w.heap.size + 1) v L ∧ Below w.heap.size w wr ∧ PInv D left cnt L)
    (fun _ wr => wr.rangeLeft b w.heap.size)
  case atStart => exact ⟨_, _, _, hrg0, Own.nil _ _, ⟨HG0.out.os, HG0.out.tape, HG0.out.output, HG0.out.size, fun k hk => HG0.out.block k hk (by simp)⟩, PInv.start D⟩
  case round =>
    obtain ⟨left, cnt, L, hrg, ho, hb, hp⟩ := hrel
    have HO := Lib.hid ho
    have HB := Lib.hid hb
    have HP := Lib.hid hp
    clear ho hb hp hrg0
    go_wp2_with (first
      | (at_next; refine poly_next _ rfl _ rfl b w.heap.size n D _ _ rfl hrg ?_ ?_)
      | go_in)
    · intro _ hl0
      have HL := Lib.hid hl0
      clear hl0
      go_wp2_with fail
      by_cases hL : L.length = 0
      · have HL0 := Lib.hid hL
        obtain ⟨A, c, hv⟩ := HO.out.shape
        have hLn : L = [] := List.eq_nil_of_length_eq_zero hL
        rw [hL] at hv
        subst hv
        refine (AnyF.slices_SortFunc_none Try.sortMono A c _ wr).mono ?_
        rintro e W ⟨rfl, hW⟩
        have he : L = sumL ms := poly_canon HS.out (fun x hx => ⟨(HP.out.each x hx).1, (HP.out.each x hx).2.1⟩) (List.Perm.refl L) (by rw [hLn]; exact List.Pairwise.nil) (HP.out.done HL.out (fun m hm => (HS.out.2 m hm).1) HD.out)
        have hR : 0 = (sumL ms).length ∧ Own W w.heap.size (.slice A 0 c) (sumL ms) ∧ Below w.heap.size w W := by
          rw [hW, ← he]; exact ⟨hL.symm, HO.out.base (Nat.le_succ _), HB.out⟩
        have HR := Lib.hid hR
        have hlen : (sumL ms).length ≤ maxLen := by rw [← hR.1]; unfold maxLen; omega
        have hrc := right_any A (sumL ms) c W (hR.2.1.rd (fun m hm => (sum_wf HS.out m hm).1)) hlen
        rw [← hR.1] at hrc
        have HRC := Lib.hid hrc
        clear hW hR hrc hL hLn he
        cases hr : rightB (sumL ms) with
        | false =>
          have hz := Lib.hid (show polyOf ms = ([], 21) by simp [polyOf, hr])
          go_wp2_with fail
          refine HRC.out.mono ?_
          rintro e W2 ⟨rfl, hg2⟩
          rw [hr]
          go_wp2
          go_ret2
          exact res_none hz.out (HR.out.2.2.trans (hg2.below.mono HR.out.2.2.size))
        | true =>
          have hz := Lib.hid (show polyOf ms = (sumL ms, 0) by simp [polyOf, hr])
          go_wp2_with fail
          refine HRC.out.mono ?_
          rintro e W2 ⟨rfl, hg2⟩
          rw [hr]
          go_wp2
          go_ret2
          exact res_of hz.out (HR.out.2.1.below hg2.below) HR.out.1.symm (HR.out.2.2.trans (hg2.below.mono HR.out.2.2.size))
      · have HNE := Lib.hid hL
        obtain ⟨g, c, rfl, hbg, hgl⟩ := HO.out.form (by omega)
        have hwL : ∀ m ∈ L, m.wf := fun m hm => (HP.out.each m hm).1
        have hdb := bare_wrap L hwL
        obtain ⟨d, hd⟩ : ∃ d, d = (wrapL L hwL).toArray := ⟨_, rfl⟩
        have hdl : bare d.toList = L := by rw [hd]; exact hdb
        have hdz : d.size = L.length := by rw [← hdl, bare_len]
        have hfew := HP.out.few
        have hsz := HSZ.out
        have hso := sort_any g c d wr (holds_own (by rw [hdl]; exact HO.out)) hgl (by omega)
        rw [hdz] at hso
        refine hso.mono ?_
        rintro e W ⟨rfl, d', k, os, hpm, hst, hW⟩
        rw [← hdz] at hst hpm
        have hR := sort_done (k := k) (os := os) (HO.out.base (Nat.le_succ _)) hdl hpm hst HB.out (Nat.le_trans (Nat.le_succ _) hbg) hgl HP.out HL.out HS.out HD.out
        rw [← hW] at hR
        have HR := Lib.hid hR
        have hlen : (sumL ms).length ≤ maxLen := by rw [← hR.1]; unfold maxLen; omega
        have hrc := right_any (some ⟨g, 0, none⟩) (sumL ms) c W (hR.2.1.rd (fun m hm => (sum_wf HS.out m hm).1)) hlen
        rw [← hR.1] at hrc
        have HRC := Lib.hid hrc
        clear hpm hst hW hR hrc hd hdl hdb
        cases hr : rightB (sumL ms) with
        | false =>
          have hz := Lib.hid (show polyOf ms = ([], 21) by simp [polyOf, hr])
          go_wp2_with fail
          refine HRC.out.mono ?_
          rintro e W2 ⟨rfl, hg2⟩
          rw [hr]
          go_wp2
          go_ret2
          exact res_none hz.out (HR.out.2.2.trans (hg2.below.mono HR.out.2.2.size))
        | true =>
          have hz := Lib.hid (show polyOf ms = (sumL ms, 0) by simp [polyOf, hr])
          go_wp2_with fail
          refine HRC.out.mono ?_
          rintro e W2 ⟨rfl, hg2⟩
          rw [hr]
          go_wp2
          go_ret2
          exact res_of hz.out (HR.out.2.1.below hg2.below) HR.out.1.symm (HR.out.2.2.trans (hg2.below.mono HR.out.2.2.size))
    · intro x w1 cnt1 hx hlx hat hrg1 hlt hg1 hs1 hen
      have HX := Lib.hid (And.intro hx (And.intro hlx (And.intro hat hlt)))
      have HG1 := Lib.hid hg1
      have HS1 := Lib.hid hs1
      clear hx hlx hat hg1 hs1 hlt
      by_cases hc : x.n = 0
      · have hc0 : (x.n != 0) = false := by simpa using hc
        have HC := Lib.hid hc
        clear hc
        go_wp2_with go_in
        go_roundw
        case rel => exact ⟨_, cnt1, L, hrg1.alloc _, World.ownsRow.alloc (World.ownsRow.kept HO.out HG1.out (.inr (HO.out.ne_iter (Nat.le_refl _)))) _, ((HB.out.grown HG1.out HB.out.size (fun k hk => by cases hk; exact Nat.le_refl _)).alloc (by rw [HS1.out]; exact HB.out.size) _), HP.out.skip (by rw [HX.out.2.2.1, HC.out]) HX.out.2.2.2⟩
        case measure => rw [(hrg1.alloc _).left_eq, hrg.left_eq]; exact HX.out.2.2.2
      · have hc0 : (x.n != 0) = true := by simpa using hc
        have HC := Lib.hid hc
        have hfew := HP.out.few
        have hsz := HSZ.out
        have hrl := hrg.lt
        have HO1 := Lib.hid (World.ownsRow.alloc (World.ownsRow.alloc (World.ownsRow.kept HO.out HG1.out (.inr (HO.out.ne_iter (Nat.le_refl _)))) (.cells #[.int .u8 x.e0, .int .u8 x.e1, .int .u8 x.e2, .int .u8 x.e3, .int .u8 x.e4, .int .u8 x.e5] 52)) (.cells #[.int .i64 x.n, .int .u8 x.e0, .int .u8 x.e1, .int .u8 x.e2, .int .u8 x.e3, .int .u8 x.e4, .int .u8 x.e5] 44))
        have hs1 : w.heap.size + 1 ≤ w1.heap.size := by rw [HS1.out]; omega
        clear hc
        go_wp2_with (first
          | (at_builtin; refine wpList_append_own _ rfl (.tmp 16) (.tmp 20) _ rfl (w.heap.size + 1) 44 i0 _ 7 16 Try.underlying22 HI.out.1 HI.out.2.1 HI.out.2.2.1 HI.out.2.2.2 rfl (by omega) _ L.length (L.flatMap Mo.cells) rfl HO1.out ⟨w1.heap.size + 1, 0, none⟩ 1 1 x.cells rfl rfl (cells_at (Cells7.box2 w1 x)) (oneCells _) (by unfold maxLen; omega) (by omega) (by simp; omega) ?_; intro v2 w2 hown2 hgr2 _)
          | go_in)
        go_roundw
        case rel => exact ⟨_, cnt1, L ++ [x], ((hrg1.alloc _).alloc _).kept hgr2 (fun e => by have := (World.ownsRow.lt HO.out b e.symm).1; omega) (fun e => (HO.out.ne_iter (Nat.le_refl _)) e.symm), Own.snoc hown2, poly_below HB.out HG1.out hrl HS1.out hgr2 (fun k hk => by have := (World.ownsRow.lt HO.out k hk).1; omega), HP.out.more HX.out.1 HC.out HX.out.2.1 HX.out.2.2.1 HX.out.2.2.2⟩
        case measure => rw [(((hrg1.alloc _).alloc _).kept hgr2 (fun e => by have := (World.ownsRow.lt HO.out b e.symm).1; omega) (fun e => (HO.out.ne_iter (Nat.le_refl _)) e.symm)).left_eq, hrg.left_eq]; exact HX.out.2.2.2
end Go.Proofs.Ytogflbpphacokaa
