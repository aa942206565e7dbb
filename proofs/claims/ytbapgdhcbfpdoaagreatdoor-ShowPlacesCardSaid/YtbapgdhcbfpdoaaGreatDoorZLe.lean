/- Layer 4, put together: LexW, LexX. -/
import Derived.Test.YtbapgdhcbfpdoaaGreatDoorZLd
/- Contract of the document's answers for layer 3: Spell. -/
namespace Go.Proofs.YtbapgdhcbfpdoaaGreatDoor
open Go.RowKit

theorem conv10 (w : World) (o : Obj) : (convert 63 9 (.slice (some ⟨w.heap.size + 1, 0, none⟩) 1 1)).run Tryz.prog ((w.alloc o).alloc (.cells #[.int .u8 10] 5)) = .ok (.string (bs [10])) ((w.alloc o).alloc (.cells #[.int .u8 10] 5)) := by
  have h := conv1 (w.alloc o) 10
  rwa [show (w.alloc o).heap.size = w.heap.size + 1 from by simp] at h
set_option maxHeartbeats 1000000 in
theorem rspell_bad (t : Tk) (w : World) (hok : TkOk t) (k2 : t.k ≠ 2) (k4 : t.k ≠ 4) (hbad : txt t = [] ∨ 100 < (txt t).length ∨ ∃ b r, txt t = b :: r ∧ (b.toNat = 32 ∨ b.toNat = 9 ∨ b.toNat = 35)) : Calls Tryz.prog 44 #[.agg #[.int .i64 t.k, .int .i64 t.a, .string (bs t.w), .int .i64 t.n]] w (SpRes w t) := by
  have htx := (show t.w = txt t by unfold txt; rw [if_neg k2, if_neg k4])
  have hk : (t.k == 2) = false := by simp [k2]
  have hk4 : (t.k == 4) = false := by simp [k4]
  have hno := Lib.hid (show ¬ Sp t by
    rintro ⟨b, r, h, h1, h2, h3, _⟩
    rcases hbad with e | e | ⟨b', r', e, e2⟩
    · rw [h] at e; cases e
    · rw [h] at e; simp at e; omega
    · rw [h] at e; injection e with e1 _; subst e1
      rcases e2 with e2 | e2 | e2
      · unfold blB at h2; simp [e2] at h2
      · unfold blB at h2; simp [e2] at h2
      · exact h3 e2)
  have hz := bs_size t.w
  have hwl := hok.2
  clear k2 k4
  rcases hbad with e | e | ⟨b, r, e, e2⟩
  · have hl : t.w.length = 0 := by rw [htx, e]; rfl
    have HT := Lib.hid htx
    have HE := Lib.hid e
    clear htx e
    go_enter Tryz.func44, Tryz.ntmps44
    go_wp2
    all_goals
      go_ret2
      exact spres_no hno.out ((Below.refl _ _).alloc (Nat.le_refl _) _)
  · have hl : 100 < t.w.length := by rw [htx]; exact e
    have HT := Lib.hid htx
    clear htx e
    go_enter Tryz.func44, Tryz.ntmps44
    go_wp2
    all_goals
      go_ret2
      exact spres_no hno.out ((Below.refl _ _).alloc (Nat.le_refl _) _)
  · have hl : 0 < t.w.length := by rw [htx, e]; simp
    have hsz : 0 < (bs t.w).size := by rw [hz]; exact hl
    have hg : (bs t.w)[0] = b := by rw [← get_s _ 0 hsz, bs_list, htx, e]; rfl
    have HT := Lib.hid htx
    have HE := Lib.hid e
    clear htx e hz
    by_cases h100 : 100 < (bs t.w).size
    · clear hg e2
      go_enter Tryz.func44, Tryz.ntmps44
      go_wp2
      all_goals
        go_ret2
        exact spres_no hno.out ((Below.refl _ _).alloc (Nat.le_refl _) _)
    · rcases e2 with e2 | e2 | e2
      · have h1 : (((bs t.w)[0].toNat : Int) == 32) = true := by rw [hg, e2]; rfl
        clear hg e2
        go_enter Tryz.func44, Tryz.ntmps44
        go_wp2
        all_goals
          go_ret2
          exact spres_no hno.out ((Below.refl _ _).alloc (Nat.le_refl _) _)
      · have h1 : (((bs t.w)[0].toNat : Int) == 32) = false := by rw [hg, e2]; rfl
        have h2 : (((bs t.w)[0].toNat : Int) == 9) = true := by rw [hg, e2]; rfl
        clear hg e2
        go_enter Tryz.func44, Tryz.ntmps44
        go_wp2
        all_goals
          go_ret2
          exact spres_no hno.out ((Below.refl _ _).alloc (Nat.le_refl _) _)
      · have h1 : (((bs t.w)[0].toNat : Int) == 32) = false := by rw [hg, e2]; rfl
        have h2 : (((bs t.w)[0].toNat : Int) == 9) = false := by rw [hg, e2]; rfl
        have h3 : (((bs t.w)[0].toNat : Int) == 35) = true := by rw [hg, e2]; rfl
        clear hg e2
        go_enter Tryz.func44, Tryz.ntmps44
        go_wp2
        all_goals
          go_ret2
          exact spres_no hno.out ((Below.refl _ _).alloc (Nat.le_refl _) _)
set_option maxHeartbeats 2000000 in
theorem rspell_word (t : Tk) (w : World) (hok : TkOk t) (k2 : t.k ≠ 2) (k4 : t.k ≠ 4) (b : UInt8) (r : List UInt8) (hl : txt t = b :: r) (hr : r.length < 100) (h0 : blB b = false ∧ b.toNat ≠ 35) : Calls Tryz.prog 44 #[.agg #[.int .i64 t.k, .int .i64 t.a, .string (bs t.w), .int .i64 t.n]] w (SpRes w t) := by
    obtain ⟨x, n, e, hx⟩ : ∃ x n e, nextR 0 b r = (x, n, e) := ⟨_, _, _, rfl⟩
    have HSP := Lib.hid (sp_next hl hr h0 hx)
    have hxj := Lib.hid hx
    have hl0 := Lib.hid (show (bs (txt t)).data.toList.drop 0 = b :: r by rw [bs_list]; exact hl)
    have h00 := Lib.hid h0
    have hzn : (bs (txt t)).size = r.length + 1 := by rw [bs_size, hl]; rfl
    have hzp : 0 < (bs (txt t)).size := by omega
    have hg : (bs (txt t))[0] = b := by rw [← get_s _ 0 hzp, bs_list, hl]; rfl
    have hbz : (bs (txt t)).size ≤ 140737488355328 := by omega
    have h32 : (((bs (txt t))[0].toNat : Int) == 32) = false := by rw [hg]; have := h0.1; unfold blB at this; simp at this; simp; omega
    have h9 : (((bs (txt t))[0].toNat : Int) == 9) = false := by rw [hg]; have := h0.1; unfold blB at this; simp at this; simp; omega
    have h35 : (((bs (txt t))[0].toNat : Int) == 35) = false := by rw [hg]; simp; have := h0.2; omega
    have h1 := hok.1.1
    have h2 := hok.1.2
    have hr1 : r.length + 1 ≤ 100 := by omega
    have hA : ((r.length : Int) + 1 == 0) = false := by simp; omega
    have hB : ((r.length : Int) + 1) ≤ 100 := by omega
    have htx := (show t.w = txt t by unfold txt; rw [if_neg k2, if_neg k4])
    have hk : (t.k == 2) = false := by simp [k2]
    have hk4 : (t.k == 4) = false := by simp [k4]
    have HT := Lib.hid htx
    obtain ⟨W1, hW1⟩ : ∃ W1, W1 = w.alloc (.cells #[.int .i64 t.k, .int .i64 t.a, .string (bs t.w), .int .i64 t.n] 56) := ⟨_, rfl⟩
    have HB1 := Lib.hid (show Below w.heap.size w W1 by rw [hW1]; exact (Below.refl _ _).alloc (Nat.le_refl _) _)
    have HX1 := Lib.hid (show Box W1 w.heap.size t by rw [hW1]; exact Box.new w t)
    obtain ⟨c0, c1, c2, c3⟩ := HX1.out.1
    clear hl hr h0 hx hg k2 k4
    rw [htx] at c2
    clear htx
    clear c0 c1 c2 c3
    go_enter Tryz.func44, Tryz.ntmps44
    rw [HT.out]
    go_wp2_with fail
    rw [show w.alloc (.cells #[.int .i64 t.k, .int .i64 t.a, .string (bs (txt t)), .int .i64 t.n] 56) = W1 from by rw [hW1, HT.out]]
    have HX2 := HX1
    have HB2 := HB1
    clear hW1
    have hn0 : Calls Tryz.prog 67 #[.string (bs (txt t)), .int .i64 0] W1 (AnsT W1 x n e) := next_at b r (bs (txt t)) 0 W1 x n e hxj.out hbz hl0.out h00.out
    refine hn0.mono ?_
    clear hn0
    rintro e' W3 ⟨rfl, hb3⟩
    have C3 := HX2.out.1.below hb3 HX2.out.2.2
    obtain ⟨c0, c1, c2, c3⟩ := C3
    have hz3 : w.heap.size < W3.heap.size := Nat.lt_of_lt_of_le HX2.out.2.2 hb3.size
    have HB3 := Lib.hid (HB2.out.trans (hb3.mono HB2.out.size))
    clear hb3
    go_wp2
    all_goals
      go_ret2
      first
      | exact spres_no (fun hs => by
          obtain ⟨e1, e2, e3, e4, e5⟩ := HSP.out.1 hs
          simp_all [ByteArray.toList_eq, bs_list]) (HB3.out.alloc HB3.out.size _)
      | exact spres_yes (HSP.out.2 (by
          simp_all [ByteArray.toList_eq, bs_list])) (HB3.out.alloc HB3.out.size _)
set_option maxHeartbeats 2000000 in
theorem rspell_two (t : Tk) (w : World) (hok : TkOk t) (k2 : t.k = 2) (b : UInt8) (r : List UInt8) (hl : txt t = b :: r) (hr : r.length < 100) (h0 : blB b = false ∧ b.toNat ≠ 35) : Calls Tryz.prog 44 #[.agg #[.int .i64 t.k, .int .i64 t.a, .string (bs t.w), .int .i64 t.n]] w (SpRes w t) := by
    obtain ⟨x, n, e, hx⟩ : ∃ x n e, nextR 0 b r = (x, n, e) := ⟨_, _, _, rfl⟩
    have HSP := Lib.hid (sp_next hl hr h0 hx)
    have hxj := Lib.hid hx
    have hl0 := Lib.hid (show (bs (txt t)).data.toList.drop 0 = b :: r by rw [bs_list]; exact hl)
    have h00 := Lib.hid h0
    have hzn : (bs (txt t)).size = r.length + 1 := by rw [bs_size, hl]; rfl
    have hzp : 0 < (bs (txt t)).size := by omega
    have hg : (bs (txt t))[0] = b := by rw [← get_s _ 0 hzp, bs_list, hl]; rfl
    have hbz : (bs (txt t)).size ≤ 140737488355328 := by omega
    have h32 : (((bs (txt t))[0].toNat : Int) == 32) = false := by rw [hg]; have := h0.1; unfold blB at this; simp at this; simp; omega
    have h9 : (((bs (txt t))[0].toNat : Int) == 9) = false := by rw [hg]; have := h0.1; unfold blB at this; simp at this; simp; omega
    have h35 : (((bs (txt t))[0].toNat : Int) == 35) = false := by rw [hg]; simp; have := h0.2; omega
    have h1 := hok.1.1
    have h2 := hok.1.2
    have hr1 : r.length + 1 ≤ 100 := by omega
    have hA : ((r.length : Int) + 1 == 0) = false := by simp; omega
    have hB : ((r.length : Int) + 1) ≤ 100 := by omega
    have htx := Lib.hid (show digs t.n = txt t by unfold txt; rw [if_pos k2])
    have hk : (t.k == 2) = true := by simp [k2]
    obtain ⟨W1, hW1⟩ : ∃ W1, W1 = w.alloc (.cells #[.int .i64 t.k, .int .i64 t.a, .string (bs t.w), .int .i64 t.n] 56) := ⟨_, rfl⟩
    have HB1 := Lib.hid (show Below w.heap.size w W1 by rw [hW1]; exact (Below.refl _ _).alloc (Nat.le_refl _) _)
    have HX1 := Lib.hid (show Box W1 w.heap.size t by rw [hW1]; exact Box.new w t)
    obtain ⟨c0, c1, c2, c3⟩ := HX1.out.1
    clear hl hr h0 hx hg k2
    go_enter Tryz.func44, Tryz.ntmps44
    go_wp2_with fail
    rw [← hW1]
    refine (digits_any t.n _ h1 h2).mono ?_
    rintro e1 W2 ⟨rfl, hb2⟩
    rw [htx.out]
    have HX2 := Lib.hid (HX1.out.below hb2)
    have HB2 := Lib.hid (HB1.out.trans (hb2.mono HB1.out.size))
    clear hb2 c0 c1 c2 c3 hW1
    go_wp2_with fail
    have hn0 : Calls Tryz.prog 67 #[.string (bs (txt t)), .int .i64 0] W2 (AnsT W2 x n e) := next_at b r (bs (txt t)) 0 W2 x n e hxj.out hbz hl0.out h00.out
    refine hn0.mono ?_
    clear hn0
    rintro e' W3 ⟨rfl, hb3⟩
    have C3 := HX2.out.1.below hb3 HX2.out.2.2
    obtain ⟨c0, c1, c2, c3⟩ := C3
    have hz3 : w.heap.size < W3.heap.size := Nat.lt_of_lt_of_le HX2.out.2.2 hb3.size
    have HB3 := Lib.hid (HB2.out.trans (hb3.mono HB2.out.size))
    clear hb3
    go_wp2
    all_goals
      go_ret2
      first
      | exact spres_no (fun hs => by
          obtain ⟨e1, e2, e3, e4, e5⟩ := HSP.out.1 hs
          simp_all [ByteArray.toList_eq, bs_list]) (HB3.out.alloc HB3.out.size _)
      | exact spres_yes (HSP.out.2 (by
          simp_all [ByteArray.toList_eq, bs_list])) (HB3.out.alloc HB3.out.size _)
set_option maxHeartbeats 2000000 in
theorem rspell_four (t : Tk) (w : World) (hok : TkOk t) (k4 : t.k = 4) (b : UInt8) (r : List UInt8) (hl : txt t = b :: r) (hr : r.length < 100) (h0 : blB b = false ∧ b.toNat ≠ 35) : Calls Tryz.prog 44 #[.agg #[.int .i64 t.k, .int .i64 t.a, .string (bs t.w), .int .i64 t.n]] w (SpRes w t) := by
    obtain ⟨x, n, e, hx⟩ : ∃ x n e, nextR 0 b r = (x, n, e) := ⟨_, _, _, rfl⟩
    have HSP := Lib.hid (sp_next hl hr h0 hx)
    have hxj := Lib.hid hx
    have hl0 := Lib.hid (show (bs (txt t)).data.toList.drop 0 = b :: r by rw [bs_list]; exact hl)
    have h00 := Lib.hid h0
    have hzn : (bs (txt t)).size = r.length + 1 := by rw [bs_size, hl]; rfl
    have hzp : 0 < (bs (txt t)).size := by omega
    have hg : (bs (txt t))[0] = b := by rw [← get_s _ 0 hzp, bs_list, hl]; rfl
    have hbz : (bs (txt t)).size ≤ 140737488355328 := by omega
    have h32 : (((bs (txt t))[0].toNat : Int) == 32) = false := by rw [hg]; have := h0.1; unfold blB at this; simp at this; simp; omega
    have h9 : (((bs (txt t))[0].toNat : Int) == 9) = false := by rw [hg]; have := h0.1; unfold blB at this; simp at this; simp; omega
    have h35 : (((bs (txt t))[0].toNat : Int) == 35) = false := by rw [hg]; simp; have := h0.2; omega
    have h1 := hok.1.1
    have h2 := hok.1.2
    have hr1 : r.length + 1 ≤ 100 := by omega
    have hA : ((r.length : Int) + 1 == 0) = false := by simp; omega
    have hB : ((r.length : Int) + 1) ≤ 100 := by omega
    have htx := (show bs [10] = bs (txt t) by unfold txt; rw [if_neg (by omega), if_pos k4])
    have hk : (t.k == 2) = false := by simp [k4]
    have hk4 : (t.k == 4) = true := by simp [k4]
    have hcv := conv10
    rw [htx] at hcv
    have HT := Lib.hid htx
    obtain ⟨W1, hW1⟩ : ∃ W1, W1 = w.alloc (.cells #[.int .i64 t.k, .int .i64 t.a, .string (bs t.w), .int .i64 t.n] 56) := ⟨_, rfl⟩
    have HB1 := Lib.hid (show Below w.heap.size w W1 by rw [hW1]; exact (Below.refl _ _).alloc (Nat.le_refl _) _)
    have HX1 := Lib.hid (show Box W1 w.heap.size t by rw [hW1]; exact Box.new w t)
    obtain ⟨c0, c1, c2, c3⟩ := HX1.out.1
    clear hl hr h0 hx hg k4 htx
    go_enter Tryz.func44, Tryz.ntmps44
    go_wp2_with fail
    rw [← hW1]
    obtain ⟨W2, hW2⟩ : ∃ W2, W2 = W1.alloc (.cells #[.int .u8 10] 5) := ⟨_, rfl⟩
    rw [← hW2]
    have HX2 := Lib.hid (show Box W2 w.heap.size t by rw [hW2]; exact HX1.out.below ((Below.refl _ _).alloc (Nat.le_refl _) _))
    have HB2 := Lib.hid (show Below w.heap.size w W2 by rw [hW2]; exact HB1.out.alloc HB1.out.size _)
    clear c0 c1 c2 c3 hW1 hW2 hcv
    have hn0 : Calls Tryz.prog 67 #[.string (bs (txt t)), .int .i64 0] W2 (AnsT W2 x n e) := next_at b r (bs (txt t)) 0 W2 x n e hxj.out hbz hl0.out h00.out
    refine hn0.mono ?_
    clear hn0
    rintro e' W3 ⟨rfl, hb3⟩
    have C3 := HX2.out.1.below hb3 HX2.out.2.2
    obtain ⟨c0, c1, c2, c3⟩ := C3
    have hz3 : w.heap.size < W3.heap.size := Nat.lt_of_lt_of_le HX2.out.2.2 hb3.size
    have HB3 := Lib.hid (HB2.out.trans (hb3.mono HB2.out.size))
    clear hb3
    go_wp2
    all_goals
      go_ret2
      first
      | exact spres_no (fun hs => by
          obtain ⟨e1, e2, e3, e4, e5⟩ := HSP.out.1 hs
          simp_all [ByteArray.toList_eq, bs_list]) (HB3.out.alloc HB3.out.size _)
      | exact spres_yes (HSP.out.2 (by
          simp_all [ByteArray.toList_eq, bs_list])) (HB3.out.alloc HB3.out.size _)
end Go.Proofs.YtbapgdhcbfpdoaaGreatDoor
/- Contracts: the document's Spell whole; shown. -/
namespace Go.Proofs.YtbapgdhcbfpdoaaGreatDoor
open Go.RowKit

theorem rspell_any (t : Tk) (w : World) (hok : TkOk t) : Calls Tryz.prog 44 #[.agg #[.int .i64 t.k, .int .i64 t.a, .string (bs t.w), .int .i64 t.n]] w (SpRes w t) := by
  by_cases k2 : t.k = 2
  · obtain ⟨b, r, hd⟩ := @digs_cons t.n
    have hl : txt t = b :: r := by unfold txt; rw [if_pos k2]; exact hd
    have := digs_len hok.1.1 hok.1.2
    rw [hd] at this
    exact rspell_two t w hok k2 b r hl (by simp at this; omega) (digs_head hd)
  · by_cases k4 : t.k = 4
    · exact rspell_four t w hok k4 10 [] (by unfold txt; rw [if_neg k2, if_pos k4]) (by simp) ⟨by decide, by decide⟩
    · cases hl : txt t with
      | nil => exact rspell_bad t w hok k2 k4 (.inl hl)
      | cons b r =>
        by_cases h1 : 100 < r.length + 1
        · exact rspell_bad t w hok k2 k4 (.inr (.inl (by rw [hl]; simpa using h1)))
        · by_cases h2 : b.toNat = 32 ∨ b.toNat = 9 ∨ b.toNat = 35
          · exact rspell_bad t w hok k2 k4 (.inr (.inr ⟨b, r, hl, h2⟩))
          · exact rspell_word t w hok k2 k4 b r hl (by omega) ⟨by unfold blB; simp; omega, by omega⟩

theorem lex1 : lexR [60, 61, 32, 60, 61, 61] = .ok [⟨3, 0, [60, 61], 0⟩, ⟨3, 3, [60, 61], 0⟩, ⟨3, 5, [61], 0⟩] := by
  unfold lexR
  rw [if_neg (by decide), lex_tok (show piece 60 [61, 32, 60, 61, 61] = .tok 3 [60, 61] 0 1 from rfl), List.drop_succ_cons, List.drop_zero, lex_skip (show piece 32 [60, 61, 61] = .skip 0 from rfl), List.drop_zero,
    lex_tok (show piece 60 [61, 61] = .tok 3 [60, 61] 0 1 from rfl), List.drop_succ_cons, List.drop_zero, lex_tok (show piece 61 [] = .tok 3 [61] 0 0 from rfl), List.drop_zero, lex_nil]
  rfl
theorem lex2 : lexR [95, 48, 48, 55, 97] = .ok [⟨2, 0, [], -7⟩, ⟨1, 4, [97], 0⟩] := by
  unfold lexR
  rw [if_neg (by decide), lex_tok (show piece 95 [48, 48, 55, 97] = .tok 2 [] (-7) 3 from rfl), List.drop_succ_cons, List.drop_succ_cons, List.drop_succ_cons, List.drop_zero,
    lex_tok (show piece 97 [] = .tok 1 [97] 0 0 from rfl), List.drop_zero, lex_nil]
  rfl
theorem lex3 : lexR [97, 32, 95, 98] = .err 2 31 := by
  unfold lexR
  rw [if_neg (by decide), lex_tok (show piece 97 [32, 95, 98] = .tok 1 [97] 0 0 from rfl), List.drop_zero, lex_skip (show piece 32 [95, 98] = .skip 0 from rfl), List.drop_zero,
    lex_bad (show piece 95 [98] = .bad 31 from rfl)]
  rfl
theorem dec7 : Lib.decDigits 7 = [55] := by rw [Lib.decDigits, dif_pos (by decide)]; rfl
theorem txt7 : txt ⟨2, 0, [], -7⟩ = [95, 55] := by
  unfold txt; rw [if_pos rfl]
  unfold digs; rw [if_pos (by decide)]
  show 95 :: Lib.decDigits 7 = _
  rw [dec7]
theorem sp7 : Sp ⟨2, 0, [], -7⟩ := ⟨95, [55], txt7, by decide, by decide, by decide, rfl⟩
theorem lex_at (s : ByteArray) (w : World) (x : Rs) (hx : lexR s.data.toList = x) (hL : Laid w) (hs : s.size ≤ 140737488355328) : Calls Tryz.prog 17 #[.string s] w (TokRes w x) := by
  subst hx; exact lex_any s w hL hs
def LexOk (w : World) (ts : List Tk) (n : Nat) (e : Ending) (w' : World) : Prop := ∃ A c, e = .returned (.tuple #[.slice A n c, .agg #[.int .i64 0, .int .i64 0]]) ∧ Rd w' w'.heap.size A ts ∧ Below w.heap.size w w'
theorem lex_ok (s : ByteArray) (w : World) (ts : List Tk) (n : Nat) (hx : lexR s.data.toList = .ok ts) (hn : ts.length = n) (hL : Laid w) (hs : s.size ≤ 140737488355328) : Calls Tryz.prog 17 #[.string s] w (LexOk w ts n) := by
  subst hn
  exact (lex_at s w _ hx hL hs).mono fun e w' ⟨A, c, he, ho, hb⟩ => ⟨A, c, he, ho.rd, hb⟩
def LexErr (w : World) (a f : Int) (e : Ending) (w' : World) : Prop := ∃ A c, e = .returned (.tuple #[.slice A 0 c, .agg #[.int .i64 a, .int .i64 f]]) ∧ Below w.heap.size w w'
theorem lex_err (s : ByteArray) (w : World) (a f : Int) (hx : lexR s.data.toList = .err a f) (hL : Laid w) (hs : s.size ≤ 140737488355328) : Calls Tryz.prog 17 #[.string s] w (LexErr w a f) :=
  (lex_at s w _ hx hL hs).mono fun _ _ ⟨A, c, he, _, hb⟩ => ⟨A, c, he, hb⟩
/-- A fault in a block. -/
def FaultAt (w : World) (b : Nat) (a f : Int) : Prop := w.cell? ⟨b, 0, none⟩ = some (.int .i64 a) ∧ w.cell? ⟨b, 1, none⟩ = some (.int .i64 f) ∧ b < w.heap.size
theorem FaultAt.new (w : World) (a f : Int) : FaultAt (w.alloc (.cells #[.int .i64 a, .int .i64 f] 41)) w.heap.size a f := by
  refine ⟨?_, ?_, ?_⟩ <;> (go_simp)
theorem FaultAt.below {w w' : World} {b : Nat} {a f : Int} (h : FaultAt w b a f) (hb : Below w.heap.size w w') : FaultAt w' b a f :=
  ⟨by rw [hb.cell (p := ⟨b, 0, none⟩) h.2.2]; exact h.1, by rw [hb.cell (p := ⟨b, 1, none⟩) h.2.2]; exact h.2.1, Nat.lt_of_lt_of_le h.2.2 hb.size⟩
theorem up {w : World} (o : Obj) : Below w.heap.size w (w.alloc o) := (Below.refl _ _).alloc (Nat.le_refl _) _
theorem up2 {w w1 w2 : World} (h : Below w.heap.size w w1) (k : Below w1.heap.size w1 w2) : Below w.heap.size w w2 := h.trans (k.mono h.size)
theorem spell7 (w : World) (hL : Laid w) : Calls Tryz.prog 57 #[.agg #[.int .i64 2, .int .i64 0, .string ⟨#[]⟩, .int .i64 (-7)]] w fun e w' => e = .returned (.tuple #[.string ⟨#[95, 55]⟩, .bool true]) ∧ Below w.heap.size w w' :=
  (spell_any ⟨2, 0, [], -7⟩ w hL ⟨⟨by decide, by decide⟩, by decide⟩).mono fun _ _ ⟨he, hb⟩ => ⟨by rw [he, sp_yes sp7, txt7]; rfl, hb⟩
end Go.Proofs.YtbapgdhcbfpdoaaGreatDoor
