/- Contract of package lex: Spell. -/
import Derived.Test.YtphcjpomneejmaaDoorLexU
namespace Go.Proofs.YtphcjpomneejmaaDoor
open Go.RowKit

set_option maxHeartbeats 2000000 in
theorem spell_any (t : Tk) (w : World) (hL : Laid w) (hok : TkOk t) : Calls Tryd.prog 15 #[.agg #[.int .i64 t.k, .int .i64 t.a, .string (bs t.w), .int .i64 t.n]] w (SpRes w t) := by
  have htl := txt_len hok
  have hgd := Lib.hid (@good_of (txt t))
  have hsp := Lib.hid (sp_iff t hok.1.1 hok.1.2)
  obtain ⟨x, hx⟩ : ∃ x, x = lexR (txt t) := ⟨_, rfl⟩
  have hcon : Hid (∀ w, Laid w → Calls Tryd.prog 12 #[.string (bs (txt t))] w (TokRes w x)) := by
    have h := fun w hL => lex_any (bs (txt t)) w hL (by rw [bs_size]; omega)
    rw [bs_list, ← hx] at h
    exact h
  rw [← hx] at hgd hsp
  clear hx
  have hbz : (bs (txt t)).size ≤ 140737488355328 := by rw [bs_size]; omega
  have hq := fun W => neqF x.fa x.fe 0 0 W
  rw [← hgd.out] at hq
  obtain ⟨W1, hW1⟩ : ∃ W1, W1 = w.alloc (.cells #[.int .i64 t.k, .int .i64 t.a, .string (bs t.w), .int .i64 t.n] 32) := ⟨_, rfl⟩
  have HB1 := Lib.hid (show Below w.heap.size w W1 by rw [hW1]; exact (Below.refl _ _).alloc (Nat.le_refl _) _)
  have HX1 := Lib.hid (show Box W1 w.heap.size t by rw [hW1]; exact Box.new w t)
  obtain ⟨c0, c1, c2, c3⟩ := HX1.out.1
  go_enter Tryd.func15, Tryd.ntmps15
  go_wp2_with fail
  refine (spelling_any t _ ?_ hok).mono ?_
  · rw [← hW1]; exact hL.below HB1.out
  rintro e W2 ⟨rfl, hb2⟩
  rw [← hW1] at hb2
  have HX2 := Lib.hid (HX1.out.below hb2)
  have HB2 := Lib.hid (HB1.out.trans (hb2.mono HB1.out.size))
  clear hb2 c0 c1 c2 c3 hW1
  go_wp2_with fail
  refine (clone_any _ _ hbz).mono ?_
  rintro e W3 ⟨rfl, hb3⟩
  have HX3 := Lib.hid (HX2.out.below hb3)
  have HB3 := Lib.hid (HB2.out.trans (hb3.mono HB2.out.size))
  clear hb3
  obtain ⟨c0, c1, c2, c3⟩ := HX3.out.1
  have f1 := HX3.out.2.1 1 (by omega)
  go_wp2_with fail
  obtain ⟨W4, hW4⟩ : ∃ W4, W4 = W3.setCell ⟨w.heap.size, 1, none⟩ (.int .i64 0) := ⟨_, rfl⟩
  rw [← hW4]
  have HX4 := Lib.hid (show Cells4 W4 w.heap.size 0 { t with a := 0 } by rw [hW4]; exact HX3.out.zero)
  have HB4 := Lib.hid (show Below w.heap.size w W4 by rw [hW4]; exact HB3.out.setCell (p := ⟨w.heap.size, 1, none⟩) (Nat.le_refl _) _)
  have hz4 : w.heap.size < W4.heap.size := by rw [hW4]; simpa using HX3.out.2.2
  clear hW4 c0 c1 c2 c3 f1
  refine (hcon.out _ (hL.below HB4.out)).mono ?_
  rintro e W5 ⟨A, c, rfl, ho, hb5⟩
  have HX5 := Lib.hid (HX4.out.below hb5 hz4)
  have HB5 := Lib.hid (HB4.out.trans (hb5.mono HB4.out.size))
  have hz5 : w.heap.size < W5.heap.size := Nat.lt_of_lt_of_le hz4 hb5.size
  have HO5 := Lib.hid ho
  clear ho hb5
  go_wp2_with fail
  obtain ⟨W6, hW6⟩ : ∃ W6, W6 = W5.alloc (.cells #[.int .i64 x.fa, .int .i64 x.fe] 26) := ⟨_, rfl⟩
  rw [← hW6]
  have HX6 := Lib.hid (show Cells4 W6 w.heap.size 0 { t with a := 0 } by rw [hW6]; exact HX5.out.below ((Below.refl W5.heap.size W5).alloc (Nat.le_refl _) _) hz5)
  have HB6 := Lib.hid (show Below w.heap.size w W6 by rw [hW6]; exact HB5.out.alloc HB5.out.size _)
  have HR6 := Lib.hid (show Rd W6 W6.heap.size A x.toks by rw [hW6]; exact (HO5.out.rd).below ((Below.refl W5.heap.size W5).alloc (Nat.le_refl _) _))
  have g0 := fun n => (show (W6.drewN n).cell? ⟨W5.heap.size, 0, none⟩ = some (.int .i64 x.fa) from by rw [hW6]; go_simp)
  have g1 := fun n => (show (W6.drewN n).cell? ⟨W5.heap.size, 1, none⟩ = some (.int .i64 x.fe) from by rw [hW6]; go_simp)
  clear hW6
  cases hg : x.good with
  | false =>
    have hno : ¬ Sp t := fun hs => by rw [hsp.out.2 hs] at hg; cases hg
    rw [hg] at hq
    have HN := Lib.hid hno
    clear hno hg
    go_quiet (fail)
    go_wp2
    go_ret2
    exact spres_no HN.out (below_drewN HB6.out HB6.out.size)
  | true =>
    rw [hg] at hq
    by_cases hlen : x.toks.length = 1
    · have hl1 : ((x.toks.length : Int) != 1) = false := by simp [hlen]
      have hl2 : (x.toks.length != 1) = false := by simp [hlen]
      have hl3 : 0 < x.toks.length := by omega
      obtain ⟨b, o, rfl, hb, hc⟩ := HR6.out.at_ 0 hl3
      have C1 := fun n => (hc 0 hl3).drewN n
      rw [Nat.zero_mul, Nat.add_zero] at C1
      have C2 := fun n => HX6.out.drewN n
      have n0 := fun n => (C1 n).1
      have n1 := fun n => (C1 n).2.1
      have n2 := fun n => (C1 n).2.2.1
      have n3 := fun n => (C1 n).2.2.2
      have m0 := fun n => (C2 n).1
      have m1 := fun n => (C2 n).2.1
      have m2 := fun n => (C2 n).2.2.1
      have m3 := fun n => (C2 n).2.2.2
      have q1 := idxT b o x.toks.length c 0 (by omega) (by omega)
      have hne := fun W => neqT (nth x.toks 0) { t with a := 0 } W
      have hone : x.toks = [nth x.toks 0] := by
        cases h : x.toks with
        | nil => rw [h] at hlen; simp at hlen
        | cons y l =>
          cases l with
          | nil => rfl
          | cons z l => rw [h] at hlen; simp at hlen
      have hxo : x = .ok [nth x.toks 0] := by
        cases x with
        | ok ts => exact congrArg Rs.ok hone
        | err a e => cases hg
      have HXO := Lib.hid hxo
      have HL := Lib.hid hlen
      clear hc C1 C2 hone hxo hg hlen hl3
      by_cases he : nth x.toks 0 = { t with a := 0 }
      · have hyes := Lib.hid (show Sp t from hsp.out.1 (by rw [HXO.out, he]))
        simp only [he, decide_true, Bool.not_true] at hne n0 n1 n2 n3
        clear he
        go_quiet (fail)
        go_wp2
        go_ret2
        exact spres_yes hyes.out (below_drewN HB6.out HB6.out.size)
      · have hno := Lib.hid (show ¬ Sp t from fun hs => he (by have := hsp.out.2 hs; rw [HXO.out] at this; injection this with this; injection this))
        simp only [he, decide_false, Bool.not_false] at hne
        clear he
        go_quiet (fail)
        go_wp2
        go_ret2
        exact spres_no hno.out (below_drewN HB6.out HB6.out.size)
    · have hl1 : ((x.toks.length : Int) != 1) = true := by simp; omega
      have hl2 : (x.toks.length != 1) = true := by simp; omega
      have hno : ¬ Sp t := fun hs => by rw [hsp.out.2 hs] at hlen; exact hlen rfl
      have HN := Lib.hid hno
      clear hno hg hlen
      go_quiet (fail)
      go_wp2
      go_ret2
      exact spres_no HN.out (below_drewN HB6.out HB6.out.size)
end Go.Proofs.YtphcjpomneejmaaDoor
