/- The walk of ParseBrackets. -/
import Derived.Test.YthdognmppbckbaaDoorZPg
namespace Go.Proofs.YthdognmppbckbaaDoor.parseBrackets
open Go.RowKit
set_option linter.unusedVariables false
def brS (s : ByteArray) : ByteArray := ((⟨#[111, 117, 116, 32, 40]⟩ : ByteArray) ++ s) ++ (⟨#[41]⟩ : ByteArray)
theorem brS_list (s : ByteArray) : (brS s).data.toList = out4 ++ 40 :: (s.data.toList ++ [41]) := by unfold brS; rw [app_list, app_list, List.append_assoc]; rfl

set_option maxRecDepth 100000 in
set_option maxHeartbeats 1600000 in
theorem walk_no (s : ByteArray) (w : World) (hL : LaidP w) (hs : s.size ≤ 140737488355320) (hp : ¬ plainS s 10000) : Calls Tryd.prog 7 #[.string s] w fun e w' => e = .returned (.bool true) ∧ Below w.heap.size w w' := by
  go_enter Tryd.func7, Tryd.ntmps7
  go_wp2_with fail
  refine (shown4_any _ hL).mono ?_
  rintro e W1 ⟨rfl, b1⟩
  have B := Lib.hid b1
  clear b1
  go_wp2_with fail
  refine (plain_no s 10000 _ hp (by decide)).mono ?_
  rintro e W1b ⟨rfl, e1⟩
  subst e1
  clear hp
  go_wp2
  go_ret
  exact ⟨rfl, B.out⟩

set_option maxRecDepth 100000 in
set_option maxHeartbeats 1600000 in
theorem walk_bad (s : ByteArray) (w : World) (hL : LaidP w) (hp : plainS s 10000) (a c : Int) (h : parseR (out4 ++ s.data.toList) = .err a c) : Calls Tryd.prog 7 #[.string s] w fun e w' => e = .returned (.bool true) ∧ Below w.heap.size w w' := by
  have hx := Lib.hid h
  have hc0 : c ≠ 0 := by have := (pz_err h).2; omega
  have HP := Lib.hid hp
  clear h hp
  have hz : (brS s).size ≤ 140737488355328 := by rw [← len_s, brS_list]; have := HP.out.1; rw [← len_s] at this; simp only [List.length_append, List.length_cons, List.length_nil]; show 4 + _ ≤ _; omega
  have hsz : s.size ≤ 140737488355000 := by have := HP.out.1; omega
  cases hy : parseR (out4 ++ 40 :: (s.data.toList ++ [41])) with
  | err x y =>
    have HY := Lib.hid (show parseR (brS s).data.toList = .err x y by rw [brS_list]; exact hy)
    clear hy
    go_enter Tryd.func7, Tryd.ntmps7
    go_wp2_with fail
    refine (shown4_any _ hL).mono ?_
    rintro e W1 ⟨rfl, b1⟩
    have B := Lib.hid b1
    clear b1
    go_wp2_with fail
    refine (plain_yes s 10000 _ HP.out (by decide)).mono ?_
    rintro e W1b ⟨rfl, e1⟩
    subst e1
    go_wp2_with fail
    refine (out_err s _ a c hx.out hc0 (hL.below B.out) hsz).mono ?_
    rintro e W2 ⟨rfl, b2⟩
    replace B := Lib.hid (up2 B.out b2)
    clear b2
    go_wp2_with fail
    refine (parse_no (brS s) _ x y HY.out (hL.below B.out) hz).mono ?_
    rintro e W3 ⟨Ai3, ci3, Al3, cl3, rfl, b3⟩
    have hu := up2 b3 (pfw_bel W3 Ai3 0 ci3 Al3 0 cl3 x y)
    obtain ⟨f3, f4, f0, f1, f2⟩ := PFAt.new W3 Ai3 0 ci3 Al3 0 cl3 x y
    have B3 := Lib.hid (up2 B.out hu)
    unfold pfW at f0 f1 f2 f3 f4
    clear hu b3
    go_wp2
    go_ret
    exact ⟨rfl, B3.out⟩
  | ok q =>
    have HY := Lib.hid (show parseR (brS s).data.toList = .ok q by rw [brS_list]; exact hy)
    clear hy
    go_enter Tryd.func7, Tryd.ntmps7
    go_wp2_with fail
    refine (shown4_any _ hL).mono ?_
    rintro e W1 ⟨rfl, b1⟩
    have B := Lib.hid b1
    clear b1
    go_wp2_with fail
    refine (plain_yes s 10000 _ HP.out (by decide)).mono ?_
    rintro e W1b ⟨rfl, e1⟩
    subst e1
    go_wp2_with fail
    refine (out_err s _ a c hx.out hc0 (hL.below B.out) hsz).mono ?_
    rintro e W2 ⟨rfl, b2⟩
    replace B := Lib.hid (up2 B.out b2)
    clear b2
    go_wp2_with fail
    refine (parse_is (brS s) _ q _ _ HY.out rfl rfl (hL.below B.out) hz).mono ?_
    rintro e W3 ⟨Ai3, ci3, Al3, cl3, rfl, _, b3, _, _⟩
    have hu := up2 b3 (pfw_bel W3 Ai3 q.ins.length ci3 Al3 q.lns.length cl3 0 0)
    obtain ⟨f3, f4, f0, f1, f2⟩ := PFAt.new W3 Ai3 q.ins.length ci3 Al3 q.lns.length cl3 0 0
    have B3 := Lib.hid (up2 B.out hu)
    unfold pfW at f0 f1 f2 f3 f4
    clear hu b3
    go_wp2
    go_ret
    exact ⟨rfl, B3.out⟩

set_option maxRecDepth 100000 in
set_option maxHeartbeats 1600000 in
theorem walk_many (s : ByteArray) (w : World) (hL : LaidP w) (hp : plainS s 10000) (its : List It) (h : parseR (out4 ++ s.data.toList) = .ok ⟨[], [⟨[], 0, its⟩]⟩) (a c : Int) (hy : parseR (out4 ++ 40 :: (s.data.toList ++ [41])) = .err a c) (hc : c = 44 ∨ c = 45) : Calls Tryd.prog 7 #[.string s] w fun e w' => e = .returned (.bool true) ∧ Below w.heap.size w w' := by
  have hx := Lib.hid h
  have HY := Lib.hid (show parseR (brS s).data.toList = .err a c by rw [brS_list]; exact hy)
  have HP := Lib.hid hp
  clear h hp hy
  have hz : (brS s).size ≤ 140737488355328 := by rw [← len_s, brS_list]; have := HP.out.1; rw [← len_s] at this; simp only [List.length_append, List.length_cons, List.length_nil]; show 4 + _ ≤ _; omega
  have hsz : s.size ≤ 140737488355000 := by have := HP.out.1; omega
  have hc0 : (c == 0) = false := by simp; omega
  rcases hc with rfl | rfl
  · skip
    go_enter Tryd.func7, Tryd.ntmps7
    go_wp2_with fail
    refine (shown4_any _ hL).mono ?_
    rintro e W1 ⟨rfl, b1⟩
    have B := Lib.hid b1
    clear b1
    go_wp2_with fail
    refine (plain_yes s 10000 _ HP.out (by decide)).mono ?_
    rintro e W1b ⟨rfl, e1⟩
    subst e1
    go_wp2_with fail
    refine (out_its s _ its _ rfl hx.out (hL.below B.out) hsz).mono ?_
    rintro e W2 ⟨A2, c2, rfl, r2, hc2, b2⟩
    have R2 := Lib.hid r2
    replace B := Lib.hid (up2 B.out b2)
    clear b2 r2
    go_wp2_with fail
    refine (parse_no (brS s) _ a 44 HY.out (hL.below B.out) hz).mono ?_
    rintro e W3 ⟨Ai3, ci3, Al3, cl3, rfl, b3⟩
    have hu := up2 b3 (pfw_bel W3 Ai3 0 ci3 Al3 0 cl3 a 44)
    obtain ⟨f3, f4, f0, f1, f2⟩ := PFAt.new W3 Ai3 0 ci3 Al3 0 cl3 a 44
    have B3 := Lib.hid (up2 B.out hu)
    unfold pfW at f0 f1 f2 f3 f4
    clear hu b3
    go_wp2
    go_ret
    exact ⟨rfl, B3.out⟩
  · skip
    go_enter Tryd.func7, Tryd.ntmps7
    go_wp2_with fail
    refine (shown4_any _ hL).mono ?_
    rintro e W1 ⟨rfl, b1⟩
    have B := Lib.hid b1
    clear b1
    go_wp2_with fail
    refine (plain_yes s 10000 _ HP.out (by decide)).mono ?_
    rintro e W1b ⟨rfl, e1⟩
    subst e1
    go_wp2_with fail
    refine (out_its s _ its _ rfl hx.out (hL.below B.out) hsz).mono ?_
    rintro e W2 ⟨A2, c2, rfl, r2, hc2, b2⟩
    have R2 := Lib.hid r2
    replace B := Lib.hid (up2 B.out b2)
    clear b2 r2
    go_wp2_with fail
    refine (parse_no (brS s) _ a 45 HY.out (hL.below B.out) hz).mono ?_
    rintro e W3 ⟨Ai3, ci3, Al3, cl3, rfl, b3⟩
    have hu := up2 b3 (pfw_bel W3 Ai3 0 ci3 Al3 0 cl3 a 45)
    obtain ⟨f3, f4, f0, f1, f2⟩ := PFAt.new W3 Ai3 0 ci3 Al3 0 cl3 a 45
    have B3 := Lib.hid (up2 B.out hu)
    unfold pfW at f0 f1 f2 f3 f4
    clear hu b3
    go_wp2
    go_ret
    exact ⟨rfl, B3.out⟩

set_option maxRecDepth 100000 in
set_option maxHeartbeats 1600000 in
theorem walk_yes (s : ByteArray) (w : World) (hL : LaidP w) (hp : plainS s 10000) (its : List It) (h : parseR (out4 ++ s.data.toList) = .ok ⟨[], [⟨[], 0, its⟩]⟩) (l : List It) (hy : parseR (out4 ++ 40 :: (s.data.toList ++ [41])) = .ok ⟨[], [⟨[], 0, l⟩]⟩) (hl : l.map zI = its.map zI) : Calls Tryd.prog 7 #[.string s] w fun e w' => e = .returned (.bool true) ∧ Below w.heap.size w w' := by
  have hx := Lib.hid h
  have HY := Lib.hid (show parseR (brS s).data.toList = .ok ⟨[], [⟨[], 0, l⟩]⟩ by rw [brS_list]; exact hy)
  have HP := Lib.hid hp
  have hbd := (pz_bd hy).its ⟨[], 0, l⟩ (by simp)
  obtain ⟨n, hn⟩ : ∃ n, n = its.length := ⟨_, rfl⟩
  have hn2 : l.length = n := by have := congrArg List.length hl; rw [hn]; simpa using this
  have HB := Lib.hid (And.intro hn.symm (And.intro hn2 (And.intro hl (And.intro (show n ≤ 1000000 by have := hbd.2.1; show n ≤ _; simp only at this; omega) (show ∀ x ∈ l, Sm 1000000 x from fun x hx => ⟨Nat.le_trans (hbd.2.2 x hx).1 (by decide), (hbd.2.2 x hx).2⟩)))))
  clear h hp hy hl hbd hn hn2
  have hz : (brS s).size ≤ 140737488355328 := by rw [← len_s, brS_list]; have := HP.out.1; rw [← len_s] at this; simp only [List.length_append, List.length_cons, List.length_nil]; show 4 + _ ≤ _; omega
  have hsz : s.size ≤ 140737488355000 := by have := HP.out.1; omega
  go_enter Tryd.func7, Tryd.ntmps7
  go_wp2_with fail
  refine (shown4_any _ hL).mono ?_
  rintro e W1 ⟨rfl, b1⟩
  have B := Lib.hid b1
  clear b1
  go_wp2_with fail
  refine (plain_yes s 10000 _ HP.out (by decide)).mono ?_
  rintro e W1b ⟨rfl, e1⟩
  subst e1
  go_wp2_with fail
  refine (out_its s _ its n HB.out.1 hx.out (hL.below B.out) hsz).mono ?_
  rintro e W2 ⟨A2, c2, rfl, r2, hc2, b2⟩
  have R2 := Lib.hid r2
  replace B := Lib.hid (up2 B.out b2)
  clear b2 r2
  go_wp2_with fail
  refine (parse_is (brS s) _ _ 0 1 HY.out rfl rfl (hL.below B.out) hz).mono ?_
  rintro e W3 ⟨Ai3, ci3, Al3, cl3, rfl, hr, b3, _, _⟩
  have hu := up2 b3 (pfw_bel W3 Ai3 0 ci3 Al3 1 cl3 0 0)
  obtain ⟨f3, f4, f0, f1, f2⟩ := PFAt.new W3 Ai3 0 ci3 Al3 1 cl3 0 0
  obtain ⟨g, rfl, hg, hl⟩ := (hr.below (pfw_bel W3 Ai3 0 ci3 Al3 1 cl3 0 0)).lns (show 0 < 1 by decide)
  obtain ⟨_, _, A, c, x0, x1, x2⟩ := hl 0 (show 0 < 1 by decide)
  have x0 : (pfW W3 Ai3 0 ci3 (some ⟨g, 0, none⟩) 1 cl3 0 0).cell? ⟨g, 2, none⟩ = some (.slice A n c) := by rw [← HB.out.2.1]; exact x0
  have X := Lib.hid (And.intro x2 (rdIt_below R2.out hu))
  have B3 := Lib.hid (up2 B.out hu)
  unfold pfW at f0 f1 f2 f3 f4 x0
  clear hu b3 hr hl hg x1 x2
  go_wp2_with fail
  refine (items_eq A A2 l its n c c2 _ HB.out.2.1 HB.out.1 X.out.1 X.out.2 HB.out.2.2.1 HB.out.2.2.2.1 HB.out.2.2.2.2).mono ?_
  rintro e W4 ⟨rfl, b4⟩
  have B4 := Lib.hid (up2 B3.out b4)
  clear b4
  go_wp2
  go_ret
  exact ⟨rfl, B4.out⟩
theorem walk (s : ByteArray) (hs : s.size ≤ 140737488355320) (w : World) (hL : LaidP w) : Calls Tryd.prog 7 #[.string s] w fun e w' => e = .returned (.bool true) ∧ Below w.heap.size w w' := by
  by_cases hp : plainS s 10000
  · cases h : parseR (out4 ++ s.data.toList) with
    | err a c => exact walk_bad s w hL hp a c h
    | ok q =>
      have hl : s.data.toList.length ≤ 10000 := by rw [len_s]; exact hp.1
      obtain ⟨its, E, rfl, hE⟩ := out_ok hp.2 hl h
      rcases brackets hp.2 hl hE with ⟨a, c, h1, h2⟩ | ⟨l, h1, h2⟩
      · exact walk_many s w hL hp its h a c h1 h2
      · exact walk_yes s w hL hp its h l h1 h2
  · exact walk_no s w hL hs hp
end Go.Proofs.YthdognmppbckbaaDoor.parseBrackets
