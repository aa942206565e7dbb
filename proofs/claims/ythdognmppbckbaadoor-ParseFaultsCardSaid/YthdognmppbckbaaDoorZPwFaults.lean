/- The walk of ParseFaults. -/
import Derived.Test.YthdognmppbckbaaDoorZPf
namespace Go.Proofs.YthdognmppbckbaaDoor.parseFaults
open Go.RowKit
set_option linter.unusedVariables false

set_option maxRecDepth 100000 in
set_option maxHeartbeats 1600000 in
theorem walk_ok (s : ByteArray) (hs : s.size ≤ 140737488355320) (w : World) (hL : LaidP w) (p : Pg) (h : parseR s.data.toList = .ok p) : Calls Tryd.prog 10 #[.string s] w fun e w' => e = .returned (.bool true) ∧ Below w.heap.size w w' := by
  have hx := Lib.hid h
  clear h
  go_enter Tryd.func10, Tryd.ntmps10
  go_wp2_with fail
  refine (shown4_any _ hL).mono ?_
  rintro e W1 ⟨rfl, b1⟩
  have B := Lib.hid b1
  clear b1
  go_wp2_with fail
  refine (parse_is s _ p _ _ hx.out rfl rfl (hL.below B.out) (by omega)).mono ?_
  rintro e W2 ⟨Ai2, ci2, Al2, cl2, rfl, _, b2, _, _⟩
  have hu := up2 b2 (pfw_bel W2 Ai2 p.ins.length ci2 Al2 p.lns.length cl2 0 0)
  replace B := Lib.hid (up2 B.out hu)
  have F2 := Lib.hid (PFAt.new W2 Ai2 p.ins.length ci2 Al2 p.lns.length cl2 0 0)
  clear hu b2
  obtain ⟨_, _, f0, f1, _⟩ := F2.out
  unfold pfW at f0 f1
  go_wp2
  go_ret
  exact ⟨rfl, B.out⟩

set_option maxRecDepth 100000 in
set_option maxHeartbeats 1600000 in
theorem walk_lex (s : ByteArray) (hs : s.size ≤ 140737488355320) (w : World) (hL : LaidP w) (n : Nat) (c : Int) (h : parseR s.data.toList = .err n c) (hn : n ≤ s.size) (h30 : 30 ≤ c) (h33 : c ≤ 33) : Calls Tryd.prog 10 #[.string s] w fun e w' => e = .returned (.bool true) ∧ Below w.heap.size w w' := by
  have hx := Lib.hid h
  have hc : (c == 0) = false := by simp; omega
  have hq : (n : Int) = 0 → (c == 0) = false := fun _ => hc
  clear h hq
  go_enter Tryd.func10, Tryd.ntmps10
  go_wp2_with fail
  refine (shown4_any _ hL).mono ?_
  rintro e W1 ⟨rfl, b1⟩
  have B := Lib.hid b1
  clear b1
  go_wp2_with fail
  refine (parse_no s _ (n : Int) c hx.out (hL.below B.out) (by omega)).mono ?_
  rintro e W2 ⟨Ai2, ci2, Al2, cl2, rfl, b2⟩
  have hu := up2 b2 (pfw_bel W2 Ai2 0 ci2 Al2 0 cl2 n c)
  replace B := Lib.hid (up2 B.out hu)
  have F2 := Lib.hid (PFAt.new W2 Ai2 0 ci2 Al2 0 cl2 n c)
  clear hu b2
  obtain ⟨_, _, f0, f1, f2⟩ := F2.out
  unfold pfW at f0 f1 f2
  by_cases h3 : c = 30
  · have h3' : (c == 30) = true := by simpa using h3
    clear h3
    go_wp2
    go_ret
    exact ⟨rfl, B.out⟩
  · have h3' : (c == 30) = false := by simpa using h3
    clear h3
    go_wp2
    go_ret
    exact ⟨rfl, B.out⟩

set_option maxRecDepth 100000 in
set_option maxHeartbeats 1600000 in
theorem walk_err (s : ByteArray) (hs : s.size ≤ 140737488355320) (w : World) (hL : LaidP w) (n : Nat) (c : Int) (h : parseR s.data.toList = .err n c) (hn : n ≤ s.size) (h40 : 40 ≤ c) : Calls Tryd.prog 10 #[.string s] w fun e w' => e = .returned (.bool true) ∧ Below w.heap.size w w' := by
  have hx := Lib.hid h
  have HX := hx
  have hc : (c == 0) = false := by simp; omega
  have h3' : (c == 30) = false := by simp; omega
  have h33 : ¬ c ≤ 33 := by omega
  clear h
  go_enter Tryd.func10, Tryd.ntmps10
  go_wp2_with fail
  refine (shown4_any _ hL).mono ?_
  rintro e W1 ⟨rfl, b1⟩
  have B := Lib.hid b1
  clear b1
  go_wp2_with fail
  refine (parse_no s _ (n : Int) c hx.out (hL.below B.out) (by omega)).mono ?_
  rintro e W2 ⟨Ai2, ci2, Al2, cl2, rfl, b2⟩
  have hu := up2 b2 (pfw_bel W2 Ai2 0 ci2 Al2 0 cl2 n c)
  replace B := Lib.hid (up2 B.out hu)
  have F2 := Lib.hid (PFAt.new W2 Ai2 0 ci2 Al2 0 cl2 n c)
  clear hu b2
  obtain ⟨_, _, f0, f1, f2⟩ := F2.out
  unfold pfW at f0 f1 f2
  have hn0 : ¬ (n : Int) < 0 := by omega
  go_wp2
  have HL := Lib.hid hL
  have HHX := Lib.hid (And.intro hn h40)
  clear hL hc h3' h33 hn0 h40 f0 f1 f2
  have hsz : s.size ≤ 140737488355320 := hs
  clear hs
  go_loopw [6] (fun i wx => ∃ m : Nat, m ≤ n ∧ i = .int .i64 m ∧ Hid (wx = pfW W2 Ai2 0 ci2 Al2 0 cl2 n c)) (fun i _ => (intOf i).toNat)
  case atStart => exact ⟨n, Nat.le_refl _, rfl, rfl⟩
  case round =>
    obtain ⟨m, hm, rfl, HW⟩ := hrel
    obtain rfl := HW.out
    clear HW
    cases m with
    | zero =>
      have hc0 := Lib.hid (show parseR ByteArray.empty.data.toList = .err 0 42 from pz_empty)
      go_wp2_with fail
      refine (parse_no ByteArray.empty _ 0 42 hc0.out (HL.out.below B.out) (by decide)).mono ?_
      rintro e W3 ⟨Ai3, ci3, Al3, cl3, rfl, b3⟩
      have hu := up2 b3 (pfw_bel W3 Ai3 0 ci3 Al3 0 cl3 0 42)
      have B3 := Lib.hid (up2 B.out hu)
      obtain ⟨_, _, f0, f1, f2⟩ := PFAt.new W3 Ai3 0 ci3 Al3 0 cl3 0 42
      unfold pfW at f0 f1 f2
      clear hu b3
      go_wp2
      go_ret
      exact ⟨rfl, B3.out⟩
    | succ k =>
      have hks : k < s.size := by have := HHX.out; omega
      have hk1 : ((k + 1 : Nat) : Int) = (k : Int) + 1 := by omega
      have hext : (s.extract 0 (k + 1)).data.toList = s.data.toList.take (k + 1) := by rw [ext_list, List.drop_zero]
      have hlz : (s.extract 0 (k + 1)).size ≤ 140737488355328 := by rw [← len_s, hext, List.length_take, len_s]; omega
      have hkb : k ≤ 140737488355320 := by omega
      by_cases hb : s[k] = 10
      · have hcut := pz_cut (m := k + 1) HX.out (by have := HHX.out; omega) (by have := HHX.out; omega) (by rw [len_s]; omega) (.inr (by rw [Nat.add_sub_cancel, List.getElem?_eq_getElem (by rw [len_s]; exact hks)]; exact congrArg some hb))
        rw [← hext] at hcut
        have h10 : ((s[k].toNat : Int) != 10) = false := by rw [hb]; rfl
        have hle : k + 1 ≤ s.size := hks
        clear hb hext
        rcases hcut with ⟨q, hq⟩ | hq
        · have HQ := Lib.hid hq
          clear hq
          go_wp2_with fail
          refine (parse_is (s.extract 0 (k + 1)) _ q _ _ HQ.out rfl rfl (HL.out.below B.out) hlz).mono ?_
          rintro e W3 ⟨Ai3, ci3, Al3, cl3, rfl, _, b3, _, _⟩
          have hu := up2 b3 (pfw_bel W3 Ai3 q.ins.length ci3 Al3 q.lns.length cl3 0 0)
          have B3 := Lib.hid (up2 B.out hu)
          obtain ⟨_, _, f0, f1, f2⟩ := PFAt.new W3 Ai3 q.ins.length ci3 Al3 q.lns.length cl3 0 0
          unfold pfW at f0 f1 f2
          clear hu b3
          go_wp2
          go_ret
          exact ⟨rfl, B3.out⟩
        · have HQ := Lib.hid hq
          clear hq
          go_wp2_with fail
          refine (parse_no (s.extract 0 (k + 1)) _ (k + 1 : Nat) 42 HQ.out (HL.out.below B.out) hlz).mono ?_
          rintro e W3 ⟨Ai3, ci3, Al3, cl3, rfl, b3⟩
          have hu := up2 b3 (pfw_bel W3 Ai3 0 ci3 Al3 0 cl3 (k + 1 : Nat) 42)
          have B3 := Lib.hid (up2 B.out hu)
          obtain ⟨_, _, f0, f1, f2⟩ := PFAt.new W3 Ai3 0 ci3 Al3 0 cl3 (k + 1 : Nat) 42
          unfold pfW at f0 f1 f2
          clear hu b3
          go_wp2
          go_ret
          exact ⟨rfl, B3.out⟩
      · have h10 : ((s[k].toNat : Int) != 10) = true := by
          rw [bne_iff_ne]
          exact fun e => hb (UInt8.toNat_inj.1 (by show s[k].toNat = 10; omega))
        clear hb hext
        go_wp2
        go_round
        case rel => exact ⟨k, by omega, by go_num, by first | exact rfl | exact trivial⟩
        case measure => simp [intOf]
theorem walk (s : ByteArray) (hs : s.size ≤ 140737488355320) (w : World) (hL : LaidP w) : Calls Tryd.prog 10 #[.string s] w fun e w' => e = .returned (.bool true) ∧ Below w.heap.size w w' := by
  cases h : parseR s.data.toList with
  | ok p => exact walk_ok s hs w hL p h
  | err a c =>
    obtain ⟨⟨n, rfl, hn⟩, hc⟩ := pz_err h
    rw [len_s] at hn
    rcases hc with ⟨h1, h2⟩ | ⟨h1, _⟩
    · exact walk_lex s hs w hL n c h hn h1 h2
    · exact walk_err s hs w hL n c h hn h1
end Go.Proofs.YthdognmppbckbaaDoor.parseFaults
