/- Contract of the document's answers for layer 3: Lex. -/
import Derived.Test.YtphcjpomneejmaaDoorLexK
namespace Go.Proofs.YtphcjpomneejmaaDoor
open Go.RowKit

/-- What lies in the call's first block. -/
def Base2 (n : Nat) (wr : World) : Prop := wr.cell? ⟨n, 0, none⟩ = some (.int .i64 0) ∧ wr.cell? ⟨n, 1, none⟩ = some (.int .i64 0) ∧ wr.frozen? ⟨n, 0, none⟩ = false ∧ wr.frozen? ⟨n, 1, none⟩ = false
theorem Base2.below {n : Nat} {w0 wr : World} {B : Nat} (h : Base2 n w0) (hb : Below B w0 wr) (hn : n < B) : Base2 n wr := by
  have e : ∀ o, wr.cell? ⟨n, o, none⟩ = w0.cell? ⟨n, o, none⟩ := fun o => hb.cell (p := ⟨n, o, none⟩) hn
  have f : ∀ o, wr.frozen? ⟨n, o, none⟩ = w0.frozen? ⟨n, o, none⟩ := fun o => hb.frozen (p := ⟨n, o, none⟩) hn
  obtain ⟨h1, h2, h3, h4⟩ := h
  exact ⟨by rw [e]; exact h1, by rw [e]; exact h2, by rw [f]; exact h3, by rw [f]; exact h4⟩
theorem note_run {b : UInt8} {r : List UInt8} {s : ByteArray} {k j : Nat} (hl : s.data.toList.drop k = b :: r) (hb : b.toNat = 35) (h : run nlB (s.data.toList.drop k) = j - k) (a : Int) : 0 < j - k ∧ lexL (b :: r) a = lexL ((b :: r).drop (j - k)) (a + (j - k : Nat)) := by
  have hi : idleR b r = run nlB r + 1 := by unfold idleR; rw [if_pos hb]
  rw [hl, run_cons, if_pos (by unfold nlB; simp [hb])] at h
  have h1 := idle_lex b r a (by rw [hi]; omega)
  rw [hi, h] at h1
  exact ⟨by omega, h1⟩
set_option maxHeartbeats 4000000 in
set_option maxRecDepth 100000 in
theorem reflex_any (s : ByteArray) (w : World) (hs : s.size ≤ 140737488355328) : Calls Tryd.prog 13 #[.string s] w (TokRes w (lexR s.data.toList)) := by
  obtain ⟨i0, hi, hz0, hz1, hz2⟩ := info_parts infoT
  have HI := Lib.hid (And.intro hi (And.intro hz0 (And.intro hz1 hz2)))
  clear hi hz0 hz1 hz2
  have hlen := len_s s
  by_cases hbig : 65536 < s.size
  · have hx := Lib.hid (show lexR s.data.toList = .err 0 30 by unfold lexR; rw [if_pos (by omega)])
    clear hlen
    go_enter Tryd.func13, Tryd.ntmps13
    go_wp2
    exact bodyPost_ret (v := .tuple #[.slice none 0 0, .agg #[.int .i64 0, .int .i64 30]]) (by simp [results, Tryd.results13, go_sem]) rfl (res_err hx.out ((Below.refl _ _).alloc (Nat.le_refl _) _))
  · have hx := Lib.hid (show lexR s.data.toList = lexL s.data.toList 0 by unfold lexR; rw [if_neg (by omega)])
    have hsz : s.size ≤ 65536 := by omega
    have HZ := Lib.hid hlen
    clear hlen
    go_enter Tryd.func13, Tryd.ntmps13
    go_wp2
    obtain ⟨W0, hW0⟩ : ∃ W, W = w.alloc (.cells #[.int .i64 0, .int .i64 0] 26) := ⟨_, rfl⟩
    have HB0 := Lib.hid (show Base2 w.heap.size W0 by
      subst hW0
      refine ⟨?_, ?_, ?_, ?_⟩ <;> (go_simp <;> rfl))
    have HBL := Lib.hid (show Below w.heap.size w W0 by rw [hW0]; exact (Below.refl _ _).alloc (Nat.le_refl _) _)
    have HS0 := Lib.hid (show W0.heap.size = w.heap.size + 1 by rw [hW0]; simp)
    rw [← hW0]
    clear hW0
    go_loopg [5, 4] s.size (fun g s6 s5 wx => ∃ (k : Nat) (us : List Tk) (A : Option Addr) (c : Nat), k + g = s.size ∧ s6 = .int .i64 k ∧ s5 = .slice A us.length c ∧ Hid (LexInv W0.heap.size W0 s.data.toList (.slice A us.length c) k us wx))
    case atStart => exact ⟨0, [], none, 0, by omega, rfl, rfl, ⟨Nat.le_refl _, by rw [pre_nil]; rfl, Own.nil _ _, Below.refl _ _, Nat.le_refl _⟩⟩
    case round =>
      obtain ⟨k, us, A, c, hkg, rfl, rfl, HV⟩ := hrel
      have HBS := Lib.hid (HB0.out.below HV.out.2.2.2.1 (by have := HS0.out; omega))
      cases gk with
      | zero =>
        obtain rfl : k = s.size := by omega
        have hx2 := Lib.hid (show lexR s.data.toList = .ok us by
          rw [hx.out, HV.out.2.1, List.drop_of_length_le (by rw [HZ.out]; omega), lex_nil]; simp [Rs.pre])
        obtain ⟨h1, h2, h3, h4⟩ := HBS.out
        go_wp2
        exact bodyPost_ret (v := .tuple #[.slice A us.length c, .agg #[.int .i64 0, .int .i64 0]]) (by simp [results, Tryd.results13, go_sem, h1, h2]) rfl (res_ok hx2.out (HV.out.2.2.1.set2 (by have := HS0.out; omega) _ _) HBL.out.size (bset2 (chain2 HBL.out HV.out.2.2.2.1) (Nat.le_refl _) _ _))
      | succ g =>
        have hlt : k < s.size := by omega
        obtain ⟨b, r, hbr⟩ : ∃ b r, s.data.toList.drop k = b :: r := by
          cases h : s.data.toList.drop k with
          | nil => have := congrArg List.length h; rw [List.length_drop, HZ.out] at this; simp at this; omega
          | cons b r => exact ⟨b, r, rfl⟩
        have HD := Lib.hid hbr
        have hg := (at_next hbr).2 hlt
        have HLR := Lib.hid (drop_len hbr)
        have HG := Lib.hid hg
        clear hbr
        by_cases hbl : blB b = true
        · have HX := Lib.hid (lex_skips HD.out HV.out.2.1 (bl_skip hbl k))
          by_cases h32 : b.toNat = 32
          · have h32' : ((s[k].toNat : Int) == 32) = true := by rw [hg, h32]; rfl
            clear hg hbl h32
            go_wp2
            go_roundg (s.size - (k + 1))
            case measure => omega
            case rel => exact ⟨k + 1, us, A, c, by omega, by go_num, rfl, ⟨by have := HV.out.1; omega, HX.out, HV.out.2.2⟩⟩
          · have h9 : b.toNat = 9 := by unfold blB at hbl; simp [h32] at hbl; exact hbl
            have h32' : ((s[k].toNat : Int) == 32) = false := by rw [hg]; simp; omega
            have h9' : ((s[k].toNat : Int) == 9) = true := by rw [hg, h9]; rfl
            clear hg hbl h32 h9
            go_wp2
            go_roundg (s.size - (k + 1))
            case measure => omega
            case rel => exact ⟨k + 1, us, A, c, by omega, by go_num, rfl, ⟨by have := HV.out.1; omega, HX.out, HV.out.2.2⟩⟩
        · have hbl : blB b = false := by simpa using hbl
          have h32 : ((s[k].toNat : Int) == 32) = false := by rw [hg]; unfold blB at hbl; simp at hbl; simp; omega
          have h9 : ((s[k].toNat : Int) == 9) = false := by rw [hg]; unfold blB at hbl; simp at hbl; simp; omega
          have HBB := Lib.hid hbl
          clear hbl
          by_cases h35 : b.toNat = 35
          · have h35' : ((s[k].toNat : Int) == 35) = true := by rw [hg, h35]; rfl
            have H35 := Lib.hid h35
            clear hg h35
            go_wp2
            go_loopg [5] s.size (fun g s5 wx => ∃ j : Nat, k ≤ j ∧ j + g = s.size + k ∧ j ≤ s.size ∧ s5 = .int .i64 j ∧ Hid (∀ i, k ≤ i → i < j → nlB (s.data.toList.getD i 0) = true) ∧ wr = wx)
            case atStart => exact ⟨k, Nat.le_refl _, by omega, by omega, rfl, fun i h1 h2 => by omega, rfl⟩
            case round =>
              obtain ⟨j, hkj, hjg, hjs, rfl, HP, rfl⟩ := hrel
              by_cases hlt2 : j < s.size
              · have hgj := Lib.hid (get_s s j hlt2)
                by_cases h10 : s[j].toNat = 10
                · have HR := Lib.hid (note_run HD.out H35.out (run_at hkj hjs HP.out (.inr (by rw [hgj.out]; unfold nlB; simp [h10]))) k)
                  have h10' : ((s[j].toNat : Int) != 10) = false := by rw [h10]; rfl
                  have hpos := HR.out.1
                  clear h10
                  go_wp2
                  go_roundg (s.size - j)
                  case measure => omega
                  case rel => exact ⟨j, us, A, c, by omega, rfl, rfl, ⟨by have := HV.out.1; omega, by have h := lex_skips HD.out HV.out.2.1 HR.out.2; rwa [show k + (j - k) = j from by omega] at h, HV.out.2.2⟩⟩
                · have h10' : ((s[j].toNat : Int) != 10) = true := by simp; omega
                  have HP2 := Lib.hid (show ∀ i, k ≤ i → i < j + 1 → nlB (s.data.toList.getD i 0) = true from fun i h1 h2 => by
                    rcases Nat.lt_or_ge i j with h | h
                    · exact HP.out i h1 h
                    · obtain rfl : i = j := by omega
                      rw [hgj.out]; unfold nlB; simp [h10])
                  clear h10
                  cases gk with
                  | zero => omega
                  | succ g2 =>
                    go_wp2
                    go_roundg g2
                    case measure => omega
                    case rel => exact ⟨j + 1, by omega, by omega, by omega, by go_num, HP2.out, rfl⟩
              · obtain rfl : j = s.size := by omega
                have HR := Lib.hid (note_run HD.out H35.out (run_at hkj hjs HP.out (.inl rfl)) k)
                go_wp2
                go_roundg 0
                case measure => omega
                case rel => exact ⟨s.size, us, A, c, by omega, rfl, rfl, ⟨by have := HV.out.1; omega, by have h := lex_skips HD.out HV.out.2.1 HR.out.2; rwa [show k + (s.size - k) = s.size from by omega] at h, HV.out.2.2⟩⟩
          · have h35' : ((s[k].toNat : Int) == 35) = false := by rw [hg]; simp; omega
            obtain ⟨t, n, e, hxe⟩ : ∃ t n e, nextR k b r = (t, n, e) := ⟨_, _, _, rfl⟩
            have hsel := next_sel ⟨HBB.out, h35⟩ hxe
            have H35 := Lib.hid h35
            have hxj := Lib.hid hxe
            have hz : w.heap.size < wr.heap.size := by have := HBL.out.size; have := HV.out.2.2.2.1.size; have := HS0.out; omega
            clear hg h35 hxe
            by_cases he : e = 0
            · obtain ⟨m, hm, hm0, hml, hlex⟩ := hsel.2 he
              subst he hm
              have HX := Lib.hid (lex_step HD.out HV.out.2.1 hlex)
              have hkm : k + m ≤ s.size := by have := HLR.out; omega
              clear hsel hlex
              have hul := HV.out.1
              have hbs := HV.out.2.2.2.1.size
              go_wp2_with (first | (go_at_call 23; refine (next_at b r s k _ t _ 0 hxj.out hs HD.out ⟨HBB.out, H35.out⟩).mono ?_; rintro e w' ⟨rfl, hb1⟩; obtain ⟨hc, hf⟩ := bcell hb1) | (at_builtin; refine wpList_append_own _ rfl (.tmp 57) (.tmp 59) _ rfl W0.heap.size 32 i0 _ 4 40 Tryd.underlying23 HI.out.1 HI.out.2.1 HI.out.2.2.1 HI.out.2.2.2 rfl (by omega) (.slice A us.length c) us.length (us.flatMap Tk.cells) rfl (World.ownsRow.alloc (World.ownsRow.alloc (HV.out.2.2.1.below hb1) _) _) ⟨w'.heap.size + 1, 0, none⟩ 1 1 (Tk.cells t) rfl rfl (cells_at (Cells4.box2 w' _ t)) (oneCells _) (by unfold maxLen; omega) (by omega) (by have := hb1.size; simp; omega) ?_; intro v1 w1 hown1 hgr1 _; obtain ⟨A1, c1, rfl⟩ := (Own.snoc hown1).shape))
              go_roundg (s.size - (k + m))
              case measure => omega
              case rel => exact ⟨k + m, us ++ [t], A1, c1, by omega, by go_num, by simp, lex_app HV.out.1 HX.out HV.out.2.2.1 HV.out.2.2.2.1 (Nat.le_refl _) hb1 hm0 hown1 hgr1⟩
            · have he' : (e != 0) = true := by simpa using he
              have hx2 := Lib.hid (show lexR s.data.toList = .err k e by rw [hx.out]; exact lex_fault HD.out HV.out.2.1 (hsel.1 he))
              obtain ⟨h1, h2, h3, h4⟩ := HBS.out
              clear hsel he
              go_wp2_with (first | (go_at_call 23; refine (next_at b r s k _ t n e hxj.out hs HD.out ⟨HBB.out, H35.out⟩).mono ?_; rintro e w' ⟨rfl, hb1⟩; obtain ⟨hc, hf⟩ := bcell hb1; have hz2 := Nat.lt_of_lt_of_le hz hb1.size))
              exact bodyPost_ret (v := .tuple #[.slice none 0 0, .agg #[.int .i64 k, .int .i64 e]]) (by simp [results, Tryd.results13, go_sem, h1, h2, hc, hz, hz2]) rfl (res_err hx2.out ((bset2 ((chain2 HBL.out HV.out.2.2.2.1).trans (hb1.mono (by omega))) (Nat.le_refl _) _ _).alloc (by simp; omega) _))
end Go.Proofs.YtphcjpomneejmaaDoor
