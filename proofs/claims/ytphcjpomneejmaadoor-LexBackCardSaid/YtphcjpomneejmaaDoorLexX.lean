/- Contracts: the document's Spell whole; shown. -/
import Derived.Test.YtphcjpomneejmaaDoorLexW
namespace Go.Proofs.YtphcjpomneejmaaDoor
open Go.RowKit

theorem rspell_any (t : Tk) (w : World) (hok : TkOk t) : Calls Tryd.prog 16 #[.agg #[.int .i64 t.k, .int .i64 t.a, .string (bs t.w), .int .i64 t.n]] w (SpRes w t) := by
  by_cases k2 : t.k = 2
  · obtain ⟨b, r, hd⟩ := @digs_cons t.n
    have hl : txt t = b :: r := by unfold txt; rw [if_pos k2]; exact hd
    have := digs_len hok.1.1 hok.1.2
    rw [hd] at this
    exact rspell_two t w hok k2 b r hl (by simp at this; omega) (digs_head hd)
  · by_cases k4 : t.k = 4
    · exact rspell_four t w hok k4 10 [] (by unfold txt; rw [if_neg k2, if_pos k4]) (by simp) ⟨by decide, by decide⟩
    · cases hl : txt t with
      | nil => exact rspell_bad t w hok k2 k4 (.inl hl)
      | cons b r =>
        by_cases h1 : 100 < r.length + 1
        · exact rspell_bad t w hok k2 k4 (.inr (.inl (by rw [hl]; simpa using h1)))
        · by_cases h2 : b.toNat = 32 ∨ b.toNat = 9 ∨ b.toNat = 35
          · exact rspell_bad t w hok k2 k4 (.inr (.inr ⟨b, r, hl, h2⟩))
          · exact rspell_word t w hok k2 k4 b r hl (by omega) ⟨by unfold blB; simp; omega, by omega⟩

theorem lex1 : lexR [60, 61, 32, 60, 61, 61] = .ok [⟨3, 0, [60, 61], 0⟩, ⟨3, 3, [60, 61], 0⟩, ⟨3, 5, [61], 0⟩] := by
  unfold lexR
  rw [if_neg (by decide), lex_tok (show piece 60 [61, 32, 60, 61, 61] = .tok 3 [60, 61] 0 1 from rfl), List.drop_succ_cons, List.drop_zero, lex_skip (show piece 32 [60, 61, 61] = .skip 0 from rfl), List.drop_zero,
    lex_tok (show piece 60 [61, 61] = .tok 3 [60, 61] 0 1 from rfl), List.drop_succ_cons, List.drop_zero, lex_tok (show piece 61 [] = .tok 3 [61] 0 0 from rfl), List.drop_zero, lex_nil]
  rfl
theorem lex2 : lexR [95, 48, 48, 55, 97] = .ok [⟨2, 0, [], -7⟩, ⟨1, 4, [97], 0⟩] := by
  unfold lexR
  rw [if_neg (by decide), lex_tok (show piece 95 [48, 48, 55, 97] = .tok 2 [] (-7) 3 from rfl), List.drop_succ_cons, List.drop_succ_cons, List.drop_succ_cons, List.drop_zero,
    lex_tok (show piece 97 [] = .tok 1 [97] 0 0 from rfl), List.drop_zero, lex_nil]
  rfl
theorem lex3 : lexR [97, 32, 95, 98] = .err 2 31 := by
  unfold lexR
  rw [if_neg (by decide), lex_tok (show piece 97 [32, 95, 98] = .tok 1 [97] 0 0 from rfl), List.drop_zero, lex_skip (show piece 32 [95, 98] = .skip 0 from rfl), List.drop_zero,
    lex_bad (show piece 95 [98] = .bad 31 from rfl)]
  rfl
theorem dec7 : Lib.decDigits 7 = [55] := by rw [Lib.decDigits, dif_pos (by decide)]; rfl
theorem txt7 : txt ⟨2, 0, [], -7⟩ = [95, 55] := by
  unfold txt; rw [if_pos rfl]
  unfold digs; rw [if_pos (by decide)]
  show 95 :: Lib.decDigits 7 = _
  rw [dec7]
theorem sp7 : Sp ⟨2, 0, [], -7⟩ := ⟨95, [55], txt7, by decide, by decide, by decide, rfl⟩
theorem lex_at (s : ByteArray) (w : World) (x : Rs) (hx : lexR s.data.toList = x) (hL : Laid w) (hs : s.size ≤ 140737488355328) : Calls Tryd.prog 12 #[.string s] w (TokRes w x) := by
  subst hx; exact lex_any s w hL hs
def LexOk (w : World) (ts : List Tk) (n : Nat) (e : Ending) (w' : World) : Prop := ∃ A c, e = .returned (.tuple #[.slice A n c, .agg #[.int .i64 0, .int .i64 0]]) ∧ Rd w' w'.heap.size A ts ∧ Below w.heap.size w w'
theorem lex_ok (s : ByteArray) (w : World) (ts : List Tk) (n : Nat) (hx : lexR s.data.toList = .ok ts) (hn : ts.length = n) (hL : Laid w) (hs : s.size ≤ 140737488355328) : Calls Tryd.prog 12 #[.string s] w (LexOk w ts n) := by
  subst hn
  exact (lex_at s w _ hx hL hs).mono fun e w' ⟨A, c, he, ho, hb⟩ => ⟨A, c, he, ho.rd, hb⟩
def LexErr (w : World) (a f : Int) (e : Ending) (w' : World) : Prop := ∃ A c, e = .returned (.tuple #[.slice A 0 c, .agg #[.int .i64 a, .int .i64 f]]) ∧ Below w.heap.size w w'
theorem lex_err (s : ByteArray) (w : World) (a f : Int) (hx : lexR s.data.toList = .err a f) (hL : Laid w) (hs : s.size ≤ 140737488355328) : Calls Tryd.prog 12 #[.string s] w (LexErr w a f) :=
  (lex_at s w _ hx hL hs).mono fun _ _ ⟨A, c, he, _, hb⟩ => ⟨A, c, he, hb⟩
/-- A fault in a block. -/
def FaultAt (w : World) (b : Nat) (a f : Int) : Prop := w.cell? ⟨b, 0, none⟩ = some (.int .i64 a) ∧ w.cell? ⟨b, 1, none⟩ = some (.int .i64 f) ∧ b < w.heap.size
theorem FaultAt.new (w : World) (a f : Int) : FaultAt (w.alloc (.cells #[.int .i64 a, .int .i64 f] 26)) w.heap.size a f := by
  refine ⟨?_, ?_, ?_⟩ <;> (go_simp)
theorem FaultAt.below {w w' : World} {b : Nat} {a f : Int} (h : FaultAt w b a f) (hb : Below w.heap.size w w') : FaultAt w' b a f :=
  ⟨by rw [hb.cell (p := ⟨b, 0, none⟩) h.2.2]; exact h.1, by rw [hb.cell (p := ⟨b, 1, none⟩) h.2.2]; exact h.2.1, Nat.lt_of_lt_of_le h.2.2 hb.size⟩
theorem up {w : World} (o : Obj) : Below w.heap.size w (w.alloc o) := (Below.refl _ _).alloc (Nat.le_refl _) _
theorem up2 {w w1 w2 : World} (h : Below w.heap.size w w1) (k : Below w1.heap.size w1 w2) : Below w.heap.size w w2 := h.trans (k.mono h.size)
theorem spell7 (w : World) (hL : Laid w) : Calls Tryd.prog 15 #[.agg #[.int .i64 2, .int .i64 0, .string ⟨#[]⟩, .int .i64 (-7)]] w fun e w' => e = .returned (.tuple #[.string ⟨#[95, 55]⟩, .bool true]) ∧ Below w.heap.size w w' :=
  (spell_any ⟨2, 0, [], -7⟩ w hL ⟨⟨by decide, by decide⟩, by decide⟩).mono fun _ _ ⟨he, hb⟩ => ⟨by rw [he, sp_yes sp7, txt7]; rfl, hb⟩
set_option maxHeartbeats 2000000 in
theorem shown_any (w : World) (hL : Laid w) : Calls Tryd.prog 11 #[] w fun e w' => e = .returned (.bool true) ∧ Below w.heap.size w w' := by
  go_enter Tryd.func11, Tryd.ntmps11
  go_wp2_with fail
  refine (lex_ok ⟨#[60, 61, 32, 60, 61, 61]⟩ _ _ 3 lex1 rfl hL (by decide)).mono ?_
  rintro e W1 ⟨A1, c1, rfl, hr1, hb⟩
  have HB1 := Lib.hid (up2 hb (up (.cells #[.int .i64 0, .int .i64 0] 26)))
  have HR1 := Lib.hid (hr1.below (up (.cells #[.int .i64 0, .int .i64 0] 26)))
  have HF1 := Lib.hid (FaultAt.new W1 0 0)
  clear hr1 hb
  go_wp2_with fail
  obtain ⟨V1, hV1⟩ : ∃ V1, V1 = W1.alloc (.cells #[.int .i64 0, .int .i64 0] 26) := ⟨_, rfl⟩
  rw [← hV1] at HB1 HR1 HF1 ⊢
  clear hV1
  refine (lex_ok ⟨#[95, 48, 48, 55, 97]⟩ _ _ 2 lex2 rfl (hL.below HB1.out) (by decide)).mono ?_
  rintro e W2 ⟨A2, c2, rfl, hr2, hb⟩
  have hu := up2 hb (up (.cells #[.int .i64 0, .int .i64 0] 26))
  have HB2 := Lib.hid (up2 HB1.out hu)
  have HR12 := Lib.hid (HR1.out.below hu)
  have HF12 := Lib.hid (HF1.out.below hu)
  have HR2 := Lib.hid (hr2.below (up (.cells #[.int .i64 0, .int .i64 0] 26)))
  have HF2 := Lib.hid (FaultAt.new W2 0 0)
  clear hr2 hb hu HB1 HR1 HF1
  go_wp2_with fail
  obtain ⟨V2, hV2⟩ : ∃ V2, V2 = W2.alloc (.cells #[.int .i64 0, .int .i64 0] 26) := ⟨_, rfl⟩
  rw [← hV2] at HB2 HR12 HF12 HR2 HF2 ⊢
  clear hV2
  refine (lex_err ⟨#[97, 32, 95, 98]⟩ _ 2 31 lex3 (hL.below HB2.out) (by decide)).mono ?_
  rintro e W3 ⟨A3, c3, rfl, hb⟩
  have hu := up2 hb (up (.cells #[.int .i64 2, .int .i64 31] 26))
  have HB3 := Lib.hid (up2 HB2.out hu)
  have HR13 := Lib.hid (HR12.out.below hu)
  have HF13 := Lib.hid (HF12.out.below hu)
  have HR23 := Lib.hid (HR2.out.below hu)
  have HF23 := Lib.hid (HF2.out.below hu)
  have HF3 := Lib.hid (FaultAt.new W3 2 31)
  clear hb hu HB2 HR12 HF12 HR2 HF2
  go_wp2_with fail
  obtain ⟨V3, hV3⟩ : ∃ V3, V3 = W3.alloc (.cells #[.int .i64 2, .int .i64 31] 26) := ⟨_, rfl⟩
  rw [← hV3] at HB3 HR13 HF13 HR23 HF23 HF3 ⊢
  clear hV3
  refine (spell7 _ (hL.below HB3.out)).mono ?_
  rintro e W4 ⟨rfl, hu⟩
  have HB4 := Lib.hid (up2 HB3.out hu)
  obtain ⟨b1, o1, rfl, hb1, hc1⟩ := (HR13.out.below hu).at_ 1 (by decide)
  obtain ⟨b2, o2, rfl, hb2, hc2⟩ := (HR23.out.below hu).at_ 1 (by decide)
  obtain ⟨f10, f11, _⟩ := HF13.out.below hu
  obtain ⟨f20, f21, _⟩ := HF23.out.below hu
  obtain ⟨f30, f31, _⟩ := HF3.out.below hu
  obtain ⟨za0, za1, za2, za3⟩ := hc1 1 (by decide)
  obtain ⟨zd0, zd1, zd2, zd3⟩ := hc2 0 (by decide)
  obtain ⟨ze0, ze1, ze2, ze3⟩ := hc2 1 (by decide)
  have a0 : W4.cell? ⟨b1, o1 + 1 * 4, none⟩ = some (.int .i64 3) := za0
  have a1 : W4.cell? ⟨b1, o1 + 1 * 4 + 1, none⟩ = some (.int .i64 3) := za1
  have a2 : W4.cell? ⟨b1, o1 + 1 * 4 + 2, none⟩ = some (.string ⟨#[60, 61]⟩) := za2
  have a3 : W4.cell? ⟨b1, o1 + 1 * 4 + 3, none⟩ = some (.int .i64 0) := za3
  have d0 : W4.cell? ⟨b2, o2 + 0 * 4, none⟩ = some (.int .i64 2) := zd0
  have d1 : W4.cell? ⟨b2, o2 + 0 * 4 + 1, none⟩ = some (.int .i64 0) := zd1
  have d2 : W4.cell? ⟨b2, o2 + 0 * 4 + 2, none⟩ = some (.string ⟨#[]⟩) := zd2
  have d3 : W4.cell? ⟨b2, o2 + 0 * 4 + 3, none⟩ = some (.int .i64 (-7)) := zd3
  have e0 : W4.cell? ⟨b2, o2 + 1 * 4, none⟩ = some (.int .i64 1) := ze0
  have e1 : W4.cell? ⟨b2, o2 + 1 * 4 + 1, none⟩ = some (.int .i64 4) := ze1
  have e2 : W4.cell? ⟨b2, o2 + 1 * 4 + 2, none⟩ = some (.string ⟨#[97]⟩) := ze2
  have e3 : W4.cell? ⟨b2, o2 + 1 * 4 + 3, none⟩ = some (.int .i64 0) := ze3
  clear hc1 hc2 hu za0 za1 za2 za3 zd0 zd1 zd2 zd3 ze0 ze1 ze2 ze3
  simp only [Nat.one_mul, Nat.zero_mul, Nat.add_zero, Nat.add_assoc] at a0 a1 a2 a3 d0 d1 d2 d3 e0 e1 e2 e3
  have q1 := idxT b1 o1 3 c1 1 (by omega) (by omega)
  have q2 := idxT b2 o2 2 c2 0 (by omega) (by omega)
  have q3 := idxT b2 o2 2 c2 1 (by omega) (by omega)
  go_wp2
  go_ret
  exact ⟨rfl, HB4.out⟩
end Go.Proofs.YtphcjpomneejmaaDoor
