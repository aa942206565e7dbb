/- The walk of ParseBlanks. -/
import Derived.Test.YthdognmppbckbaaDoorZPi
namespace Go.Proofs.YthdognmppbckbaaDoor.parseBlanks
open Go.RowKit
set_option linter.unusedVariables false

set_option maxRecDepth 100000 in
set_option maxHeartbeats 3200000 in
theorem walk_long (s : ByteArray) (hs : s.size ≤ 140737488355320) (w : World) (hL : LaidP w) (h : 10000 < s.size) : Calls Tryd.prog 6 #[.string s] w fun e w' => e = .returned (.bool true) ∧ Below w.heap.size w w' := by
  have hi : (10000 : Int) < (s.size : Int) := by omega
  go_enter Tryd.func6, Tryd.ntmps6
  go_wp2_with fail
  refine (shown4_any _ hL).mono ?_
  rintro e W1 ⟨rfl, b1⟩
  have B := Lib.hid b1
  clear b1
  go_wp2
  go_ret
  exact ⟨rfl, B.out⟩

set_option maxRecDepth 100000 in
set_option maxHeartbeats 3200000 in
theorem walk_err (s : ByteArray) (hs : s.size ≤ 140737488355320) (w : World) (hL : LaidP w) (h : s.size ≤ 10000) (a b c : Int) (h1 : parseR s.data.toList = .err a c) (h2 : parseR (preB ++ tr s.data.toList) = .err b c) : Calls Tryd.prog 6 #[.string s] w fun e w' => e = .returned (.bool true) ∧ Below w.heap.size w w' := by
  have hi : ¬ (10000 : Int) < (s.size : Int) := by omega
  have HX := Lib.hid (And.intro h1 h2)
  obtain ⟨i0, hi0, hz0, hz1, hz2⟩ := info_parts infoB
  have HI := Lib.hid (And.intro hi0 (And.intro hz0 (And.intro hz1 hz2)))
  clear hi0 hz0 hz1 hz2 h1 h2
  go_enter Tryd.func6, Tryd.ntmps6
  go_wp2_with fail
  refine (shown4_any _ hL).mono ?_
  rintro e W1 ⟨rfl, b1⟩
  have B := Lib.hid b1
  clear b1
  have hcv := Lib.run_convert_bytes_const (P := Tryd.prog) W1 45 5 #[.int .u8 10, .int .u8 32, .int .u8 35, .int .u8 32, .int .u8 102, .int .u8 105, .int .u8 114, .int .u8 115, .int .u8 116, .int .u8 10] 10 10 Tryd.underlying45 Tryd.underlying5
  go_wp2
  clear hcv
  have HO := Lib.hid (show RowB (W1.alloc (.cells #[.int .u8 10, .int .u8 32, .int .u8 35, .int .u8 32, .int .u8 102, .int .u8 105, .int .u8 114, .int .u8 115, .int .u8 116, .int .u8 10] 5 (10, 11))) W1.heap.size W1.heap.size 10 10 preB from ⟨rfl, .inr ⟨rfl, Nat.le_refl _, by simp, fun j hj => by
    rw [cell_of_row _ _ _ _ _ _ (heap_alloc_new W1 _)]
    match j, hj with
    | 0, _ => rfl
    | 1, _ => rfl
    | 2, _ => rfl
    | 3, _ => rfl
    | 4, _ => rfl
    | 5, _ => rfl
    | 6, _ => rfl
    | 7, _ => rfl
    | 8, _ => rfl
    | 9, _ => rfl⟩⟩)
  go_loopw [5, 4] (fun i s4 wr => ∃ (k g cap : Nat) (bl : List UInt8), k ≤ s.size ∧ i = .int .i64 k ∧ s4 = .slice (some ⟨g, 0, none⟩) bl.length cap ∧ Hid (bl = preB ++ tr (s.data.toList.take k) ∧ RowB wr W1.heap.size g bl.length cap bl ∧ Below W1.heap.size W1 wr)) (fun i _ _ => s.size - (intOf i).toNat)
  case atStart => exact ⟨0, W1.heap.size, 10, preB, by omega, rfl, rfl, Lib.hid ⟨rfl, HO.out, up _⟩⟩
  case round =>
    obtain ⟨k, g, cap, bl, hk, rfl, rfl, HB⟩ := hrel
    have hlen : bl.length ≤ 10 + 5 * s.size := by
      have h1 := tr_take_len s k
      rw [HB.out.1, List.length_append]
      show 10 + _ ≤ _
      omega
    have hz := HB.out.2.2.size
    by_cases hlt : k < s.size
    · by_cases hb : s[k] = 10
      · have h10 : ((s[k].toNat : Int) == 10) = true := by rw [hb]; rfl
        have HT := Lib.hid (show preB ++ tr (s.data.toList.take (k + 1)) = bl ++ [9, 35, 10, 10] ++ [s[k]] by rw [tr_take hlt, if_pos hb, HB.out.1, hb]; simp)
        clear hb
        go_wp2_with (first
          | (at_builtin; refine append_rowB rfl (.tmp 27) (.tmp 28) rfl W1.heap.size g bl.length cap bl [9, 35, 10, 10] 4 rfl (HB.out.2.1.keep (up _)) wr.heap.size 4 rfl rfl (by omega) (newsN _ _ rfl #[.int .u8 9, .int .u8 35, .int .u8 10, .int .u8 10] _) (by omega) (by first | (simp; done) | (simp; omega)) ?_; intro g5 cap5 w5 hrow5 hbel5; have hb5 := hbel5 W1 (HB.out.2.2.alloc hz _); have hz5 := hb5.size; have H5 := Lib.hid (And.intro hrow5 hb5); clear hrow5 hbel5 hb5)
          | (at_builtin; refine append_rowB rfl (.tmp 30) (.tmp 34) rfl W1.heap.size g5 (bl.length + 4) cap5 (bl ++ [9, 35, 10, 10]) [s[k]] 1 rfl (H5.out.1.keep (up _)) w5.heap.size 1 rfl rfl (by omega) (newsN _ _ rfl #[.int .u8 s[k].toNat] _) (by omega) (by first | (simp; omega) | (simp; done)) ?_; intro g6 cap6 w6 hrow6 hbel6; have hb6 := hbel6 W1 (H5.out.2.alloc hz5 _); have H6 := Lib.hid (And.intro hrow6 hb6); clear hrow6 hbel6 hb6))
        clear h10
        go_roundw
        case rel =>
          refine ⟨k + 1, g6, cap6, bl ++ [9, 35, 10, 10] ++ [s[k]], by omega, by go_num, by simp, Lib.hid ⟨HT.out.symm, ?_, H6.out.2⟩⟩
          have h := H6.out.1
          have e : (bl ++ [9, 35, 10, 10] ++ [s[k]]).length = bl.length + 4 + 1 := by simp
          rw [e]
          exact h
        case measure => simp [intOf]; omega
      · have h10 : ((s[k].toNat : Int) == 10) = false := neqB (n := 10) (fun e => hb (UInt8.toNat_inj.1 e))
        have HT := Lib.hid (show preB ++ tr (s.data.toList.take (k + 1)) = bl ++ [s[k]] by rw [tr_take hlt, if_neg hb, HB.out.1]; simp)
        clear hb
        go_wp2_with (first
          | (at_builtin; refine append_rowB rfl (.tmp 30) (.tmp 34) rfl W1.heap.size g bl.length cap bl [s[k]] 1 rfl (HB.out.2.1.keep (up _)) wr.heap.size 1 rfl rfl (by omega) (newsN _ _ rfl #[.int .u8 s[k].toNat] _) (by omega) (by first | (simp; omega) | (simp; done)) ?_; intro g6 cap6 w6 hrow6 hbel6; have hb6 := hbel6 W1 (HB.out.2.2.alloc hz _); have H6 := Lib.hid (And.intro hrow6 hb6); clear hrow6 hbel6 hb6))
        clear h10
        go_roundw
        case rel =>
          refine ⟨k + 1, g6, cap6, bl ++ [s[k]], by omega, by go_num, by simp, Lib.hid ⟨HT.out.symm, ?_, H6.out.2⟩⟩
          have h := H6.out.1
          have e : (bl ++ [s[k]]).length = bl.length + 1 := by simp
          rw [e]
          exact h
        case measure => simp [intOf]; omega
    · have hks : k = s.size := by omega
      have hbl : bl = preB ++ tr s.data.toList := by rw [HB.out.1, hks, List.take_of_length_le (by rw [len_s]; exact Nat.le_refl _)]
      subst hks
      have HBL := Lib.hid (up2 B.out HB.out.2.2)
      have HX2 := Lib.hid (show parseR (bs bl).data.toList = .err b c by rw [bs_list, hbl]; exact HX.out.2)
      clear hbl
      have hz2 : (bs bl).size ≤ 140737488355328 := by rw [bs_size]; omega
      have HO2 := Lib.hid HB.out.2.1
      go_wp2_with fail
      refine (parse_no s _ a c HX.out.1 (hL.below HBL.out) (by omega)).mono ?_
      rintro e W3 ⟨Ai3, ci3, Al3, cl3, rfl, b3⟩
      have hu3 := up2 b3 (pfw_bel W3 Ai3 0 ci3 Al3 0 cl3 a c)
      have F3 := Lib.hid (PFAt.new W3 Ai3 0 ci3 Al3 0 cl3 a c)
      have B3 := Lib.hid (up2 HBL.out hu3)
      have HT := (HO2.out.keep hu3).text
      unfold pfW at HT
      go_wp2_with fail
      refine (parse_no (bs bl) _ b c HX2.out (hL.below B3.out) hz2).mono ?_
      rintro e W4 ⟨Ai4, ci4, Al4, cl4, rfl, b4⟩
      have hu4 := up2 b4 (pfw_bel W4 Ai4 0 ci4 Al4 0 cl4 b c)
      have F4 := Lib.hid (PFAt.new W4 Ai4 0 ci4 Al4 0 cl4 b c)
      have B4 := Lib.hid (up2 B3.out hu4)
      obtain ⟨f0, f1, f2, f3, f4⟩ := F3.out.below hu4
      obtain ⟨k0, k1, k2, k3, k4⟩ := F4.out
      unfold pfW at f0 f1 f2 f3 f4 k0 k1 k2 k3 k4
      clear hu3 hu4 b3 b4 HT hz2
      go_wp2_with fail
      refine (alike_any Ai3 Al3 Ai4 Al4 ci3 cl3 ci4 cl4 0 0 ⟨[], []⟩ ⟨[], []⟩ _ rfl rfl ⟨fun h => absurd h (by decide), fun h => absurd h (by decide)⟩ ⟨fun h => absurd h (by decide), fun h => absurd h (by decide)⟩ rfl ⟨fun m hm => (by cases hm), fun m hm => (by cases hm)⟩ (by omega) (by omega) (fun x hx => by cases hx)).mono ?_
      rintro e W5 ⟨rfl, b5⟩
      have B5 := Lib.hid (up2 B4.out b5)
      clear b5
      go_wp2
      go_ret
      exact ⟨rfl, B5.out⟩

set_option maxRecDepth 100000 in
set_option maxHeartbeats 3200000 in
theorem walk_ok (s : ByteArray) (hs : s.size ≤ 140737488355320) (w : World) (hL : LaidP w) (h : s.size ≤ 10000) (p q : Pg) (h1 : parseR s.data.toList = .ok p) (h2 : parseR (preB ++ tr s.data.toList) = .ok q) (hz : zP p = zP q) : Calls Tryd.prog 6 #[.string s] w fun e w' => e = .returned (.bool true) ∧ Below w.heap.size w w' := by
  have hi : ¬ (10000 : Int) < (s.size : Int) := by omega
  have HX := Lib.hid (And.intro h1 h2)
  obtain ⟨N, hN⟩ : ∃ N, N = p.ins.length := ⟨_, rfl⟩
  obtain ⟨M, hM⟩ : ∃ M, M = p.lns.length := ⟨_, rfl⟩
  have hpg := (pz_flat h1).1
  have hbd := pz_bd h1
  have hzp := zp_parts hz
  have hc := hpg.cnt
  have HZ := Lib.hid (And.intro hN.symm (And.intro hM.symm (And.intro (hzp.1.trans hN.symm) (And.intro (hzp.2.1.trans hM.symm) (And.intro hz (And.intro hbd (And.intro (show N ≤ 100 by omega) (And.intro (show M ≤ 100 by omega) (show ∀ x ∈ p.ins, x.sd.length ≤ 4 from fun x hx => (hpg.ins x hx).2)))))))))
  obtain ⟨i0, hi0, hz0, hz1, hz2⟩ := info_parts infoB
  have HI := Lib.hid (And.intro hi0 (And.intro hz0 (And.intro hz1 hz2)))
  clear hi0 hz0 hz1 hz2 h1 h2 hpg hbd hzp hc hz hN hM
  go_enter Tryd.func6, Tryd.ntmps6
  go_wp2_with fail
  refine (shown4_any _ hL).mono ?_
  rintro e W1 ⟨rfl, b1⟩
  have B := Lib.hid b1
  clear b1
  have hcv := Lib.run_convert_bytes_const (P := Tryd.prog) W1 45 5 #[.int .u8 10, .int .u8 32, .int .u8 35, .int .u8 32, .int .u8 102, .int .u8 105, .int .u8 114, .int .u8 115, .int .u8 116, .int .u8 10] 10 10 Tryd.underlying45 Tryd.underlying5
  go_wp2
  clear hcv
  have HO := Lib.hid (show RowB (W1.alloc (.cells #[.int .u8 10, .int .u8 32, .int .u8 35, .int .u8 32, .int .u8 102, .int .u8 105, .int .u8 114, .int .u8 115, .int .u8 116, .int .u8 10] 5 (10, 11))) W1.heap.size W1.heap.size 10 10 preB from ⟨rfl, .inr ⟨rfl, Nat.le_refl _, by simp, fun j hj => by
    rw [cell_of_row _ _ _ _ _ _ (heap_alloc_new W1 _)]
    match j, hj with
    | 0, _ => rfl
    | 1, _ => rfl
    | 2, _ => rfl
    | 3, _ => rfl
    | 4, _ => rfl
    | 5, _ => rfl
    | 6, _ => rfl
    | 7, _ => rfl
    | 8, _ => rfl
    | 9, _ => rfl⟩⟩)
  go_loopw [5, 4] (fun i s4 wr => ∃ (k g cap : Nat) (bl : List UInt8), k ≤ s.size ∧ i = .int .i64 k ∧ s4 = .slice (some ⟨g, 0, none⟩) bl.length cap ∧ Hid (bl = preB ++ tr (s.data.toList.take k) ∧ RowB wr W1.heap.size g bl.length cap bl ∧ Below W1.heap.size W1 wr)) (fun i _ _ => s.size - (intOf i).toNat)
  case atStart => exact ⟨0, W1.heap.size, 10, preB, by omega, rfl, rfl, Lib.hid ⟨rfl, HO.out, up _⟩⟩
  case round =>
    obtain ⟨k, g, cap, bl, hk, rfl, rfl, HB⟩ := hrel
    have hlen : bl.length ≤ 10 + 5 * s.size := by
      have h1 := tr_take_len s k
      rw [HB.out.1, List.length_append]
      show 10 + _ ≤ _
      omega
    have hz := HB.out.2.2.size
    by_cases hlt : k < s.size
    · by_cases hb : s[k] = 10
      · have h10 : ((s[k].toNat : Int) == 10) = true := by rw [hb]; rfl
        have HT := Lib.hid (show preB ++ tr (s.data.toList.take (k + 1)) = bl ++ [9, 35, 10, 10] ++ [s[k]] by rw [tr_take hlt, if_pos hb, HB.out.1, hb]; simp)
        clear hb
        go_wp2_with (first
          | (at_builtin; refine append_rowB rfl (.tmp 27) (.tmp 28) rfl W1.heap.size g bl.length cap bl [9, 35, 10, 10] 4 rfl (HB.out.2.1.keep (up _)) wr.heap.size 4 rfl rfl (by omega) (newsN _ _ rfl #[.int .u8 9, .int .u8 35, .int .u8 10, .int .u8 10] _) (by omega) (by first | (simp; done) | (simp; omega)) ?_; intro g5 cap5 w5 hrow5 hbel5; have hb5 := hbel5 W1 (HB.out.2.2.alloc hz _); have hz5 := hb5.size; have H5 := Lib.hid (And.intro hrow5 hb5); clear hrow5 hbel5 hb5)
          | (at_builtin; refine append_rowB rfl (.tmp 30) (.tmp 34) rfl W1.heap.size g5 (bl.length + 4) cap5 (bl ++ [9, 35, 10, 10]) [s[k]] 1 rfl (H5.out.1.keep (up _)) w5.heap.size 1 rfl rfl (by omega) (newsN _ _ rfl #[.int .u8 s[k].toNat] _) (by omega) (by first | (simp; omega) | (simp; done)) ?_; intro g6 cap6 w6 hrow6 hbel6; have hb6 := hbel6 W1 (H5.out.2.alloc hz5 _); have H6 := Lib.hid (And.intro hrow6 hb6); clear hrow6 hbel6 hb6))
        clear h10
        go_roundw
        case rel =>
          refine ⟨k + 1, g6, cap6, bl ++ [9, 35, 10, 10] ++ [s[k]], by omega, by go_num, by simp, Lib.hid ⟨HT.out.symm, ?_, H6.out.2⟩⟩
          have h := H6.out.1
          have e : (bl ++ [9, 35, 10, 10] ++ [s[k]]).length = bl.length + 4 + 1 := by simp
          rw [e]
          exact h
        case measure => simp [intOf]; omega
      · have h10 : ((s[k].toNat : Int) == 10) = false := neqB (n := 10) (fun e => hb (UInt8.toNat_inj.1 e))
        have HT := Lib.hid (show preB ++ tr (s.data.toList.take (k + 1)) = bl ++ [s[k]] by rw [tr_take hlt, if_neg hb, HB.out.1]; simp)
        clear hb
        go_wp2_with (first
          | (at_builtin; refine append_rowB rfl (.tmp 30) (.tmp 34) rfl W1.heap.size g bl.length cap bl [s[k]] 1 rfl (HB.out.2.1.keep (up _)) wr.heap.size 1 rfl rfl (by omega) (newsN _ _ rfl #[.int .u8 s[k].toNat] _) (by omega) (by first | (simp; omega) | (simp; done)) ?_; intro g6 cap6 w6 hrow6 hbel6; have hb6 := hbel6 W1 (HB.out.2.2.alloc hz _); have H6 := Lib.hid (And.intro hrow6 hb6); clear hrow6 hbel6 hb6))
        clear h10
        go_roundw
        case rel =>
          refine ⟨k + 1, g6, cap6, bl ++ [s[k]], by omega, by go_num, by simp, Lib.hid ⟨HT.out.symm, ?_, H6.out.2⟩⟩
          have h := H6.out.1
          have e : (bl ++ [s[k]]).length = bl.length + 1 := by simp
          rw [e]
          exact h
        case measure => simp [intOf]; omega
    · have hks : k = s.size := by omega
      have hbl : bl = preB ++ tr s.data.toList := by rw [HB.out.1, hks, List.take_of_length_le (by rw [len_s]; exact Nat.le_refl _)]
      subst hks
      have HBL := Lib.hid (up2 B.out HB.out.2.2)
      have HX2 := Lib.hid (show parseR (bs bl).data.toList = .ok q by rw [bs_list, hbl]; exact HX.out.2)
      clear hbl
      have hz2 : (bs bl).size ≤ 140737488355328 := by rw [bs_size]; omega
      have HO2 := Lib.hid HB.out.2.1
      go_wp2_with fail
      refine (parse_is s _ p N M HX.out.1 HZ.out.1 HZ.out.2.1 (hL.below HBL.out) (by omega)).mono ?_
      rintro e W3 ⟨Ai3, ci3, Al3, cl3, rfl, hr3, b3, _, _⟩
      have hu3 := up2 b3 (pfw_bel W3 Ai3 N ci3 Al3 M cl3 0 0)
      have F3 := Lib.hid (PFAt.new W3 Ai3 N ci3 Al3 M cl3 0 0)
      have B3 := Lib.hid (up2 HBL.out hu3)
      have HT := (HO2.out.keep hu3).text
      unfold pfW at HT
      have R3 := Lib.hid (hr3.below (pfw_bel W3 Ai3 N ci3 Al3 M cl3 0 0))
      go_wp2_with fail
      refine (parse_is (bs bl) _ q N M HX2.out HZ.out.2.2.1 HZ.out.2.2.2.1 (hL.below B3.out) hz2).mono ?_
      rintro e W4 ⟨Ai4, ci4, Al4, cl4, rfl, hr4, b4, _, _⟩
      have hu4 := up2 b4 (pfw_bel W4 Ai4 N ci4 Al4 M cl4 0 0)
      have F4 := Lib.hid (PFAt.new W4 Ai4 N ci4 Al4 M cl4 0 0)
      have B4 := Lib.hid (up2 B3.out hu4)
      replace R3 := Lib.hid (R3.out.below hu4)
      have R4 := Lib.hid (hr4.below (pfw_bel W4 Ai4 N ci4 Al4 M cl4 0 0))
      obtain ⟨f0, f1, f2, f3, f4⟩ := F3.out.below hu4
      obtain ⟨k0, k1, k2, k3, k4⟩ := F4.out
      unfold pfW at f0 f1 f2 f3 f4 k0 k1 k2 k3 k4
      clear hu3 hu4 b3 b4 HT hz2
      go_wp2_with fail
      refine (alike_any Ai3 Al3 Ai4 Al4 ci3 cl3 ci4 cl4 N M p q _ HZ.out.1 HZ.out.2.1 R3.out R4.out HZ.out.2.2.2.2.1 HZ.out.2.2.2.2.2.1 HZ.out.2.2.2.2.2.2.1 HZ.out.2.2.2.2.2.2.2.1 HZ.out.2.2.2.2.2.2.2.2).mono ?_
      rintro e W5 ⟨rfl, b5⟩
      have B5 := Lib.hid (up2 B4.out b5)
      clear b5
      go_wp2
      go_ret
      exact ⟨rfl, B5.out⟩
theorem walk (s : ByteArray) (hs : s.size ≤ 140737488355320) (w : World) (hL : LaidP w) : Calls Tryd.prog 6 #[.string s] w fun e w' => e = .returned (.bool true) ∧ Below w.heap.size w w' := by
  by_cases h : s.size ≤ 10000
  · rcases blanks (l := s.data.toList) (by rw [len_s]; exact h) with ⟨a, b, c, h1, h2⟩ | ⟨p, q, h1, h2, h3⟩
    · exact walk_err s hs w hL h a b c h1 h2
    · exact walk_ok s hs w hL h p q h1 h2 h3
  · exact walk_long s hs w hL (by omega)
end Go.Proofs.YthdognmppbckbaaDoor.parseBlanks
