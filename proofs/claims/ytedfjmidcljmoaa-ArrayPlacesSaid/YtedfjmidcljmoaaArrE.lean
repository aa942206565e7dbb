
/- Contracts: indexes (layer 6). -/
import Derived.Test.YtedfjmidcljmoaaArrD
namespace Go.Proofs.Ytedfjmidcljmoaa
open Go.RowKit
set_option linter.unusedVariables false
/-- A list of numbers is answered, in memory of its own, and a code. -/
def IdxR (w : World) (r : List Int × Int) (e : Ending) (w' : World) : Prop := ∃ (A : Option Addr) (m c : Nat), e = .returned (.tuple #[.slice A m c, .int .i64 r.2]) ∧ r.1.length = m ∧ m ≤ 4 ∧ w'.ownsRow w.heap.size 2 1 (.slice A m c) m (r.1.map fun x => Value.int .i64 x) ∧ RdA w' A r.1 ∧ Below w.heap.size w w'
theorem IdxR.bad {w : World} {r : List Int × Int} {k : Int} (h : r = ([], k)) (n : Nat) : IdxR w r (.returned (.tuple #[.slice none 0 0, .int .i64 k])) (w.drewN n) := by
  subst h
  exact ⟨none, 0, 0, rfl, rfl, by omega, World.ownsRow_nil _ _ _ _, RdA.nil _ _, blw_draws (Below.refl _ _) n⟩
theorem ix_rng {s : List Int} {p : Int} (h : okA s) (g : 0 ≤ p ∧ p < prodA s) : ∀ x ∈ ixA s p, rngA x := by
  have hi := (ix_in (ok_nn h) g.1 g.2).1
  have hb := in_be hi
  refine all_ith fun k hk => ?_
  rw [ixA_len] at hk
  have h1 := hb k hk
  have h2 := ok_ith h k
  unfold rngA
  omega
theorem IdxR.good {w w' : World} {s : List Int} {p : Int} {g n : Nat} (h : okA s) (hp : 0 ≤ p ∧ p < prodA s) (hn : s.length = n) (hg : w.heap.size ≤ g) (hk : BkA w' g (ixA s p)) (hb : Below w.heap.size w w') : IdxR w (ixR s p) (.returned (.tuple #[.slice (some ⟨g, 0, none⟩) n n, .int .i64 0])) w' := by
  have h4 : n ≤ 4 := by rw [← hn]; exact h.1
  rw [ix_yes h hp]
  exact ⟨_, n, n, rfl, by rw [ixA_len, hn], h4, hk.own hg (by rw [ixA_len, hn]) (by unfold maxLen; omega), hk.rd (ix_rng h hp), hb⟩
set_option maxHeartbeats 1000000 in
theorem index_any (A : Option Addr) (n c : Nat) (p : Int) (s : List Int) (w : World) (h : RdA w A s) (hn : s.length = n) (ln : n ≤ 9223372036854775807) :
    Calls Try.prog 16 #[.slice A n c, .int .i64 p] w (IdxR w (ixR s p)) := by
  have H := Lib.hid h
  have HN := Lib.hid hn
  clear h hn
  have hmx : n ≤ maxLen := by unfold maxLen; omega
  by_cases ho : okA s
  · have hy := Lib.hid (sz_yes ho)
    have h4 : n ≤ 4 := by rw [← HN.out]; exact ho.1
    have hpr := (ok_rng ho).2
    by_cases hp : 0 ≤ p ∧ p < prodA s
    · have hpos := Lib.hid (ok_pos ho hp)
      have HO := Lib.hid ho
      have HP := Lib.hid hp
      obtain ⟨hp0, hp1⟩ := hp
      clear ho
      go_enter Try.func16, Try.ntmps16
      go_wp2_with fail
      refine (size_any _ s _ _ _ H.out HN.out hmx).mono ?_
      rintro e w' ⟨rfl, rfl⟩
      rw [hy.out]
      go_wp2_with fail
      refine (below_yes _ _ _ hp0 hp1).mono ?_
      rintro e w' ⟨rfl, rfl⟩
      go_wp2_with fail
      refine (fresh_any _ _ _ s _ H.out HN.out (by omega)).mono ?_
      rintro e w1 ⟨g, rfl, hg, hk, hb⟩
      have HK := Lib.hid hk
      have HB := Lib.hid hb
      clear hk hb
      go_wp2
      go_loopw [1, 9] (fun z i wr => ∃ (k : Nat) (q : Int), k ≤ n ∧ i = .int .i64 ((k : Int) - 1) ∧ z = .int .i64 q ∧ q = lfA s p k ∧ BkA wr g (mixA s p k) ∧ Below w'.heap.size w' wr) (fun _ i _ => (intOf i + 1).toNat)
      case atStart => exact ⟨n, p, by omega, rfl, rfl, by rw [← HN.out, lf_start], by rw [← HN.out, mix_start]; exact HK.out, HB.out⟩
      case round =>
        obtain ⟨k, q, hkn, rfl, rfl, hq, hbk, hbb⟩ := hrel
        have HQ := Lib.hid hq
        have HBK := Lib.hid hbk
        have HBB := Lib.hid hbb
        clear hq hbk hbb
        by_cases hk0 : 0 < k
        · obtain ⟨j, rfl⟩ : ∃ j, k = j + 1 := ⟨k - 1, by omega⟩
          have ej : (((j + 1 : Nat) : Int) - 1) = (j : Int) := by omega
          rw [ej]
          clear ej
          have hj : j < s.length := by rw [HN.out]; omega
          have hx : 0 < ith s j := hpos.out _ (ith_mem hj)
          have hx2 := (ok_ith HO.out j).2
          have c1 := HBK.out.cell (k := j) (by rw [mix_len (by omega)]; exact hj)
          rw [mix_at hj] at c1
          have f1 := HBK.out.frozen j
          have hq0 : 0 ≤ q := by rw [HQ.out]; exact lf_nn hpos.out hp0
          have hq1 : q ≤ p := by rw [HQ.out]; exact lf_le hpos.out hp0
          have hs1 := Lib.hid (lf_step (p := p) hpos.out hj)
          have hs2 := Lib.hid (mix_step (p := p) hpos.out hj)
          obtain ⟨x, hxe⟩ : ∃ x, x = ith s j := ⟨_, rfl⟩
          rw [← hxe] at c1 hx hx2
          have HX := Lib.hid hxe
          clear hxe hj
          go_wp2
          go_roundw
          case rel => exact ⟨j, _, by omega, rfl, rfl, by rw [hs1.out, ← HQ.out, ← HX.out], by rw [← hs2.out, ← HQ.out, ← HX.out]; exact HBK.out.set _ _, HBB.out.setCell hg _⟩
          case measure => simp [intOf]
        · obtain rfl : k = 0 := by omega
          have e0 : (((0 : Nat) : Int) - 1) = -1 := by omega
          rw [e0]
          clear e0
          go_wp2
          go_ret2
          exact IdxR.good HO.out HP.out HN.out hg (by rw [← mix_end HP.out]; exact HBK.out) HBB.out
    · have hz := Lib.hid (ix_none ho hp)
      have HP := Lib.hid hp
      clear ho hp
      go_enter Try.func16, Try.ntmps16
      go_wp2_with fail
      refine (size_any _ s _ _ _ H.out HN.out hmx).mono ?_
      rintro e w' ⟨rfl, rfl⟩
      rw [hy.out]
      go_wp2_with fail
      refine (below_no _ _ _ HP.out).mono ?_
      rintro e w' ⟨rfl, rfl⟩
      go_wp2
      go_ret2
      exact IdxR.bad hz.out 0
  · have hy := Lib.hid (sz_no ho)
    have hz := Lib.hid (ix_no (p := p) ho)
    clear ho
    go_enter Try.func16, Try.ntmps16
    go_wp2_with fail
    refine (size_any _ s _ _ _ H.out HN.out hmx).mono ?_
    rintro e w' ⟨rfl, rfl⟩
    rw [hy.out]
    go_wp2
    go_ret2
    exact IdxR.bad hz.out 0
/-- The document's list so far. -/
def mizA (s : List Int) (p : Int) (k : Nat) : List Int := List.replicate k 0 ++ upA s p k
theorem miz_len {s : List Int} {p : Int} {k : Nat} (h : k ≤ s.length) : (mizA s p k).length = s.length := by
  unfold mizA; rw [List.length_append, up_len, List.length_replicate]; omega
theorem miz_start (s : List Int) (p : Int) : mizA s p s.length = List.replicate s.length 0 := by unfold mizA; rw [up_start, List.append_nil]
theorem miz_end {s : List Int} {p : Int} (h : 0 ≤ p ∧ p < prodA s) : mizA s p 0 = ixA s p := by unfold mizA; rw [up_end h]; rfl
theorem miz_step {s : List Int} {p : Int} {k : Nat} (hs : ∀ x ∈ s, 0 < x) (hk : k < s.length) : (mizA s p (k + 1)).set k (lfA s p (k + 1) % ith s k) = mizA s p k := by
  unfold mizA
  rw [up_step hs hk, List.replicate_succ', List.append_assoc, List.set_append_right _ _ (by simp), List.length_replicate, Nat.sub_self]
  rfl
theorem miz_at {s : List Int} {p : Int} {k : Nat} : ith (mizA s p (k + 1)) k = 0 := by
  unfold mizA ith
  rw [List.getD_eq_getElem?_getD, List.getElem?_append_left (by simp)]
  simp
theorem bk_zero (w : World) (n : Nat) : BkA (w.alloc (.cells (List.replicate n (Value.int .i64 0)).toArray 2)) w.heap.size (List.replicate n 0) := by
  unfold BkA
  rw [map_replicate0]
  exact heap_alloc_new w _
set_option maxHeartbeats 1000000 in
theorem refindex_any (A : Option Addr) (n c : Nat) (p : Int) (s : List Int) (w : World) (h : RdA w A s) (hn : s.length = n) (ln : n ≤ 9223372036854775807) :
    Calls Try.prog 17 #[.slice A n c, .int .i64 p] w (IdxR w (ixR s p)) := by
  have H := Lib.hid h
  have HN := Lib.hid hn
  clear h hn
  have hmx : n ≤ maxLen := by unfold maxLen; omega
  by_cases ho : okA s
  · have hy := Lib.hid (sz_yes ho)
    have h4 : n ≤ 4 := by rw [← HN.out]; exact ho.1
    have hpr := (ok_rng ho).2
    by_cases hp : 0 ≤ p ∧ p < prodA s
    · have hpos := Lib.hid (ok_pos ho hp)
      have HO := Lib.hid ho
      have HP := Lib.hid hp
      obtain ⟨hp0, hp1⟩ := hp
      have hmk := make_ints n (by omega)
      clear ho
      go_enter Try.func17, Try.ntmps17
      go_wp2_with fail
      refine (refsize_any _ s _ _ _ H.out HN.out hmx).mono ?_
      rintro e w' ⟨rfl, rfl⟩
      rw [hy.out]
      go_wp2
      clear hmk
      obtain ⟨g, hg⟩ : ∃ g, g = w'.heap.size := ⟨_, rfl⟩
      have HK := Lib.hid (bk_zero w' n)
      have HB := Lib.hid ((Below.refl w'.heap.size w').alloc (Nat.le_refl _) (.cells (List.replicate n (Value.int .i64 0)).toArray 2))
      rw [← hg] at HK
      have hgl : w'.heap.size ≤ g := by omega
      rw [← hg]
      have HG := Lib.hid hg
      clear hg
      go_loopw [1, 9] (fun z i wr => ∃ (k : Nat) (q : Int), k ≤ n ∧ i = .int .i64 ((k : Int) - 1) ∧ z = .int .i64 q ∧ q = lfA s p k ∧ BkA wr g (mizA s p k) ∧ Below w'.heap.size w' wr) (fun _ i _ => (intOf i + 1).toNat)
      case atStart => exact ⟨n, p, by omega, rfl, rfl, by rw [← HN.out, lf_start], by rw [← HN.out, miz_start, HN.out]; exact HK.out, HB.out⟩
      case round =>
        obtain ⟨k, q, hkn, rfl, rfl, hq, hbk, hbb⟩ := hrel
        have HQ := Lib.hid hq
        have HBK := Lib.hid hbk
        have HBB := Lib.hid hbb
        clear hq hbk hbb
        by_cases hk0 : 0 < k
        · obtain ⟨j, rfl⟩ : ∃ j, k = j + 1 := ⟨k - 1, by omega⟩
          have ej : (((j + 1 : Nat) : Int) - 1) = (j : Int) := by omega
          rw [ej]
          clear ej
          have hj : j < s.length := by rw [HN.out]; omega
          have hx : 0 < ith s j := hpos.out _ (ith_mem hj)
          have hx2 := (ok_ith HO.out j).2
          obtain ⟨b, o, rfl, hb, c0⟩ := (H.out.below HBB.out).at_ hj
          have c1 := HBK.out.cell (k := j) (by rw [miz_len (by omega)]; exact hj)
          have f1 := HBK.out.frozen j
          have hq0 : 0 ≤ q := by rw [HQ.out]; exact lf_nn hpos.out hp0
          have hq1 : q ≤ p := by rw [HQ.out]; exact lf_le hpos.out hp0
          have hs1 := Lib.hid (lf_step (p := p) hpos.out hj)
          have hs2 := Lib.hid (miz_step (p := p) hpos.out hj)
          rw [miz_at] at c1
          have hbl : b < w'.heap.size := by
            obtain ⟨b', o', e', hb', _⟩ := H.out.at_ hj
            injection e' with e'
            injection e' with e1 _ _
            omega
          have hbg : b ≠ g := by omega
          have hgb : g ≠ b := by omega
          obtain ⟨x, hxe⟩ : ∃ x, x = ith s j := ⟨_, rfl⟩
          rw [← hxe] at c0 hx hx2
          have HX := Lib.hid hxe
          clear hxe hj
          go_wp2
          go_roundw
          case rel => exact ⟨j, _, by omega, rfl, rfl, by rw [hs1.out, ← HQ.out, ← HX.out], by rw [← hs2.out, ← HQ.out, ← HX.out]; exact HBK.out.set _ _, HBB.out.setCell hgl _⟩
          case measure => simp [intOf]
        · obtain rfl : k = 0 := by omega
          have e0 : (((0 : Nat) : Int) - 1) = -1 := by omega
          rw [e0]
          clear e0
          go_wp2
          go_ret2
          exact IdxR.good HO.out HP.out HN.out hgl (by rw [← miz_end HP.out]; exact HBK.out) HBB.out
    · have hz := Lib.hid (ix_none ho hp)
      have HP := Lib.hid hp
      clear ho
      by_cases h1 : p < 0
      · clear hp
        go_enter Try.func17, Try.ntmps17
        go_wp2_with fail
        refine (refsize_any _ s _ _ _ H.out HN.out hmx).mono ?_
        rintro e w' ⟨rfl, rfl⟩
        rw [hy.out]
        go_wp2
        go_ret2
        exact IdxR.bad hz.out 0
      · have h2 : prodA s ≤ p := by omega
        clear hp
        go_enter Try.func17, Try.ntmps17
        go_wp2_with fail
        refine (refsize_any _ s _ _ _ H.out HN.out hmx).mono ?_
        rintro e w' ⟨rfl, rfl⟩
        rw [hy.out]
        go_wp2
        go_ret2
        exact IdxR.bad hz.out 0
  · have hy := Lib.hid (sz_no ho)
    have hz := Lib.hid (ix_no (p := p) ho)
    clear ho
    go_enter Try.func17, Try.ntmps17
    go_wp2_with fail
    refine (refsize_any _ s _ _ _ H.out HN.out hmx).mono ?_
    rintro e w' ⟨rfl, rfl⟩
    rw [hy.out]
    go_wp2
    go_ret2
    exact IdxR.bad hz.out 0
end Go.Proofs.Ytedfjmidcljmoaa
