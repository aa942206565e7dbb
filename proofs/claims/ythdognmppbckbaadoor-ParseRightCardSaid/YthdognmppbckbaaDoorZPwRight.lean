/- The walk of ParseRight. -/
import Derived.Test.YthdognmppbckbaaDoorZPg
namespace Go.Proofs.YthdognmppbckbaaDoor.parseRight
open Go.RowKit
set_option linter.unusedVariables false
def rgS (s t : ByteArray) : ByteArray := (((⟨#[111, 117, 116, 32, 40]⟩ : ByteArray) ++ s) ++ (⟨#[41, 109, 97, 120, 32]⟩ : ByteArray)) ++ t
theorem rgS_list (s t : ByteArray) : (rgS s t).data.toList = out4 ++ 40 :: (s.data.toList ++ 41 :: 109 :: 97 :: 120 :: 32 :: t.data.toList) := by
  unfold rgS; rw [app_list, app_list, app_list]; simp [out4]

set_option maxRecDepth 100000 in
set_option maxHeartbeats 3200000 in
theorem walk_no1 (s t : ByteArray) (w : World) (hL : LaidP w) (hp : ¬ plainS s 10000) : Calls Tryd.prog 8 #[.string s, .string t] w fun e w' => e = .returned (.bool true) ∧ Below w.heap.size w w' := by
  go_enter Tryd.func8, Tryd.ntmps8
  go_wp2_with fail
  refine (shown4_any _ hL).mono ?_
  rintro e W1 ⟨rfl, b1⟩
  have B := Lib.hid b1
  clear b1
  go_wp2_with fail
  refine (plain_no s 10000 _ hp (by decide)).mono ?_
  rintro e W1a ⟨rfl, e1⟩
  subst e1
  clear hp
  go_wp2
  go_ret
  exact ⟨rfl, B.out⟩

set_option maxRecDepth 100000 in
set_option maxHeartbeats 3200000 in
theorem walk_no2 (s t : ByteArray) (w : World) (hL : LaidP w) (hp : plainS s 10000) (hq : ¬ plainS t 10000) : Calls Tryd.prog 8 #[.string s, .string t] w fun e w' => e = .returned (.bool true) ∧ Below w.heap.size w w' := by
  have HP := Lib.hid hp
  clear hp
  go_enter Tryd.func8, Tryd.ntmps8
  go_wp2_with fail
  refine (shown4_any _ hL).mono ?_
  rintro e W1 ⟨rfl, b1⟩
  have B := Lib.hid b1
  clear b1
  go_wp2_with fail
  refine (plain_yes s 10000 _ HP.out (by decide)).mono ?_
  rintro e W1a ⟨rfl, e1⟩
  subst e1
  go_wp2_with fail
  refine (plain_no t 10000 _ hq (by decide)).mono ?_
  rintro e W1b ⟨rfl, e1⟩
  subst e1
  clear hq
  go_wp2
  go_ret
  exact ⟨rfl, B.out⟩

set_option maxRecDepth 100000 in
set_option maxHeartbeats 3200000 in
theorem walk_bad1 (s t : ByteArray) (w : World) (hL : LaidP w) (hp : plainS s 10000) (hq : plainS t 10000) (a c : Int) (h : parseR (out4 ++ s.data.toList) = .err a c) (d f : Int) (k : parseR (out4 ++ t.data.toList) = .err d f) : Calls Tryd.prog 8 #[.string s, .string t] w fun e w' => e = .returned (.bool true) ∧ Below w.heap.size w w' := by
  have hx := Lib.hid h
  have hy := Lib.hid k
  have hc0 : c ≠ 0 := by have := (pz_err h).2; omega
  have hf0 : f ≠ 0 := by have := (pz_err k).2; omega
  have HP := Lib.hid hp
  have HQ := Lib.hid hq
  clear h hp hq k
  have hsz : s.size ≤ 140737488355000 := by have := HP.out.1; omega
  have htz : t.size ≤ 140737488355000 := by have := HQ.out.1; omega
  go_enter Tryd.func8, Tryd.ntmps8
  go_wp2_with fail
  refine (shown4_any _ hL).mono ?_
  rintro e W1 ⟨rfl, b1⟩
  have B := Lib.hid b1
  clear b1
  go_wp2_with fail
  refine (plain_yes s 10000 _ HP.out (by decide)).mono ?_
  rintro e W1a ⟨rfl, e1⟩
  subst e1
  go_wp2_with fail
  refine (plain_yes t 10000 _ HQ.out (by decide)).mono ?_
  rintro e W1b ⟨rfl, e1⟩
  subst e1
  go_wp2_with fail
  refine (out_err s _ _ _ hx.out hc0 (hL.below B.out) hsz).mono ?_
  rintro e W2 ⟨rfl, b2⟩
  replace B := Lib.hid (up2 B.out b2)
  clear b2
  go_wp2_with fail
  refine (out_err t _ _ _ hy.out hf0 (hL.below B.out) htz).mono ?_
  rintro e W3 ⟨rfl, b2⟩
  replace B := Lib.hid (up2 B.out b2)
  clear b2
  go_wp2
  go_ret
  exact ⟨rfl, B.out⟩

set_option maxRecDepth 100000 in
set_option maxHeartbeats 3200000 in
theorem walk_bad2 (s t : ByteArray) (w : World) (hL : LaidP w) (hp : plainS s 10000) (hq : plainS t 10000) (a c : Int) (h : parseR (out4 ++ s.data.toList) = .err a c) (its : List It) (k : parseR (out4 ++ t.data.toList) = .ok ⟨[], [⟨[], 0, its⟩]⟩) : Calls Tryd.prog 8 #[.string s, .string t] w fun e w' => e = .returned (.bool true) ∧ Below w.heap.size w w' := by
  have hx := Lib.hid h
  have hy := Lib.hid k
  have hc0 : c ≠ 0 := by have := (pz_err h).2; omega
  have HP := Lib.hid hp
  have HQ := Lib.hid hq
  clear h hp hq k
  have hsz : s.size ≤ 140737488355000 := by have := HP.out.1; omega
  have htz : t.size ≤ 140737488355000 := by have := HQ.out.1; omega
  go_enter Tryd.func8, Tryd.ntmps8
  go_wp2_with fail
  refine (shown4_any _ hL).mono ?_
  rintro e W1 ⟨rfl, b1⟩
  have B := Lib.hid b1
  clear b1
  go_wp2_with fail
  refine (plain_yes s 10000 _ HP.out (by decide)).mono ?_
  rintro e W1a ⟨rfl, e1⟩
  subst e1
  go_wp2_with fail
  refine (plain_yes t 10000 _ HQ.out (by decide)).mono ?_
  rintro e W1b ⟨rfl, e1⟩
  subst e1
  go_wp2_with fail
  refine (out_err s _ _ _ hx.out hc0 (hL.below B.out) hsz).mono ?_
  rintro e W2 ⟨rfl, b2⟩
  replace B := Lib.hid (up2 B.out b2)
  clear b2
  go_wp2_with fail
  refine (out_its t _ _ _ rfl hy.out (hL.below B.out) htz).mono ?_
  rintro e W3 ⟨A3, c3, rfl, r2, hc3, b2⟩
  replace B := Lib.hid (up2 B.out b2)
  have R3 := Lib.hid r2
  clear b2 r2
  go_wp2
  go_ret
  exact ⟨rfl, B.out⟩

set_option maxRecDepth 100000 in
set_option maxHeartbeats 3200000 in
theorem walk_bad3 (s t : ByteArray) (w : World) (hL : LaidP w) (hp : plainS s 10000) (hq : plainS t 10000) (its : List It) (h : parseR (out4 ++ s.data.toList) = .ok ⟨[], [⟨[], 0, its⟩]⟩) (d f : Int) (k : parseR (out4 ++ t.data.toList) = .err d f) : Calls Tryd.prog 8 #[.string s, .string t] w fun e w' => e = .returned (.bool true) ∧ Below w.heap.size w w' := by
  have hx := Lib.hid h
  have hy := Lib.hid k
  have hf0 : f ≠ 0 := by have := (pz_err k).2; omega
  have HP := Lib.hid hp
  have HQ := Lib.hid hq
  clear h hp hq k
  have hsz : s.size ≤ 140737488355000 := by have := HP.out.1; omega
  have htz : t.size ≤ 140737488355000 := by have := HQ.out.1; omega
  go_enter Tryd.func8, Tryd.ntmps8
  go_wp2_with fail
  refine (shown4_any _ hL).mono ?_
  rintro e W1 ⟨rfl, b1⟩
  have B := Lib.hid b1
  clear b1
  go_wp2_with fail
  refine (plain_yes s 10000 _ HP.out (by decide)).mono ?_
  rintro e W1a ⟨rfl, e1⟩
  subst e1
  go_wp2_with fail
  refine (plain_yes t 10000 _ HQ.out (by decide)).mono ?_
  rintro e W1b ⟨rfl, e1⟩
  subst e1
  go_wp2_with fail
  refine (out_its s _ _ _ rfl hx.out (hL.below B.out) hsz).mono ?_
  rintro e W2 ⟨A2, c2, rfl, r2, hc2, b2⟩
  replace B := Lib.hid (up2 B.out b2)
  have R2 := Lib.hid r2
  clear b2 r2
  go_wp2_with fail
  refine (out_err t _ _ _ hy.out hf0 (hL.below B.out) htz).mono ?_
  rintro e W3 ⟨rfl, b2⟩
  replace B := Lib.hid (up2 B.out b2)
  clear b2
  go_wp2
  go_ret
  exact ⟨rfl, B.out⟩

set_option maxRecDepth 100000 in
set_option maxHeartbeats 3200000 in
theorem walk_many (s t : ByteArray) (w : World) (hL : LaidP w) (hp : plainS s 10000) (hq : plainS t 10000) (ia ib : List It) (h : parseR (out4 ++ s.data.toList) = .ok ⟨[], [⟨[], 0, ia⟩]⟩) (k : parseR (out4 ++ t.data.toList) = .ok ⟨[], [⟨[], 0, ib⟩]⟩) (a c : Int) (hy : parseR (out4 ++ 40 :: (s.data.toList ++ 41 :: 109 :: 97 :: 120 :: 32 :: t.data.toList)) = .err a c) (hc : c = 44 ∨ c = 45) : Calls Tryd.prog 8 #[.string s, .string t] w fun e w' => e = .returned (.bool true) ∧ Below w.heap.size w w' := by
  have hx := Lib.hid h
  have hx2 := Lib.hid k
  have HY := Lib.hid (show parseR (rgS s t).data.toList = .err a c by rw [rgS_list]; exact hy)
  have HP := Lib.hid hp
  have HQ := Lib.hid hq
  clear h k hp hq hy
  have hsz : s.size ≤ 140737488355000 := by have := HP.out.1; omega
  have htz : t.size ≤ 140737488355000 := by have := HQ.out.1; omega
  have hz : (rgS s t).size ≤ 140737488355328 := by
    rw [← len_s, rgS_list]
    have := HP.out.1
    have h2 := HQ.out.1
    rw [← len_s] at this h2
    simp only [List.length_append, List.length_cons]
    show 4 + _ ≤ _
    omega
  have hc0 : (c == 0) = false := by simp; omega
  rcases hc with rfl | rfl
  · skip
    go_enter Tryd.func8, Tryd.ntmps8
    go_wp2_with fail
    refine (shown4_any _ hL).mono ?_
    rintro e W1 ⟨rfl, b1⟩
    have B := Lib.hid b1
    clear b1
    go_wp2_with fail
    refine (plain_yes s 10000 _ HP.out (by decide)).mono ?_
    rintro e W1a ⟨rfl, e1⟩
    subst e1
    go_wp2_with fail
    refine (plain_yes t 10000 _ HQ.out (by decide)).mono ?_
    rintro e W1b ⟨rfl, e1⟩
    subst e1
    go_wp2_with fail
    refine (out_its s _ _ _ rfl hx.out (hL.below B.out) hsz).mono ?_
    rintro e W2 ⟨A2, c2, rfl, r2, hc2, b2⟩
    replace B := Lib.hid (up2 B.out b2)
    have R2 := Lib.hid r2
    clear b2 r2
    go_wp2_with fail
    refine (out_its t _ _ _ rfl hx2.out (hL.below B.out) htz).mono ?_
    rintro e W3 ⟨A3, c3, rfl, r2, hc3, b2⟩
    replace B := Lib.hid (up2 B.out b2)
    replace R2 := Lib.hid (rdIt_below R2.out b2)
    have R3 := Lib.hid r2
    clear b2 r2
    go_wp2_with fail
    refine (parse_no (rgS s t) _ a 44 HY.out (hL.below B.out) hz).mono ?_
    rintro e W4 ⟨Ai4, ci4, Al4, cl4, rfl, b4⟩
    have hu := up2 b4 (pfw_bel W4 Ai4 0 ci4 Al4 0 cl4 a 44)
    obtain ⟨f3, f4, f0, f1, f2⟩ := PFAt.new W4 Ai4 0 ci4 Al4 0 cl4 a 44
    have B3 := Lib.hid (up2 B.out hu)
    unfold pfW at f0 f1 f2 f3 f4
    clear hu b4
    go_wp2
    go_ret
    exact ⟨rfl, B3.out⟩
  · skip
    go_enter Tryd.func8, Tryd.ntmps8
    go_wp2_with fail
    refine (shown4_any _ hL).mono ?_
    rintro e W1 ⟨rfl, b1⟩
    have B := Lib.hid b1
    clear b1
    go_wp2_with fail
    refine (plain_yes s 10000 _ HP.out (by decide)).mono ?_
    rintro e W1a ⟨rfl, e1⟩
    subst e1
    go_wp2_with fail
    refine (plain_yes t 10000 _ HQ.out (by decide)).mono ?_
    rintro e W1b ⟨rfl, e1⟩
    subst e1
    go_wp2_with fail
    refine (out_its s _ _ _ rfl hx.out (hL.below B.out) hsz).mono ?_
    rintro e W2 ⟨A2, c2, rfl, r2, hc2, b2⟩
    replace B := Lib.hid (up2 B.out b2)
    have R2 := Lib.hid r2
    clear b2 r2
    go_wp2_with fail
    refine (out_its t _ _ _ rfl hx2.out (hL.below B.out) htz).mono ?_
    rintro e W3 ⟨A3, c3, rfl, r2, hc3, b2⟩
    replace B := Lib.hid (up2 B.out b2)
    replace R2 := Lib.hid (rdIt_below R2.out b2)
    have R3 := Lib.hid r2
    clear b2 r2
    go_wp2_with fail
    refine (parse_no (rgS s t) _ a 45 HY.out (hL.below B.out) hz).mono ?_
    rintro e W4 ⟨Ai4, ci4, Al4, cl4, rfl, b4⟩
    have hu := up2 b4 (pfw_bel W4 Ai4 0 ci4 Al4 0 cl4 a 45)
    obtain ⟨f3, f4, f0, f1, f2⟩ := PFAt.new W4 Ai4 0 ci4 Al4 0 cl4 a 45
    have B3 := Lib.hid (up2 B.out hu)
    unfold pfW at f0 f1 f2 f3 f4
    clear hu b4
    go_wp2
    go_ret
    exact ⟨rfl, B3.out⟩

set_option maxRecDepth 100000 in
set_option maxHeartbeats 3200000 in
theorem walk_yes (s t : ByteArray) (w : World) (hL : LaidP w) (hp : plainS s 10000) (hq : plainS t 10000) (ia ib : List It) (h : parseR (out4 ++ s.data.toList) = .ok ⟨[], [⟨[], 0, ia⟩]⟩) (k : parseR (out4 ++ t.data.toList) = .ok ⟨[], [⟨[], 0, ib⟩]⟩) (l : List It) (hy : parseR (out4 ++ 40 :: (s.data.toList ++ 41 :: 109 :: 97 :: 120 :: 32 :: t.data.toList)) = .ok ⟨[], [⟨[], 0, l⟩]⟩) (hl : l.map zI = ia.map zI ++ ib.map zI ++ [mxI]) : Calls Tryd.prog 8 #[.string s, .string t] w fun e w' => e = .returned (.bool true) ∧ Below w.heap.size w w' := by
  have hx := Lib.hid h
  have hx2 := Lib.hid k
  have HY := Lib.hid (show parseR (rgS s t).data.toList = .ok ⟨[], [⟨[], 0, l⟩]⟩ by rw [rgS_list]; exact hy)
  have HP := Lib.hid hp
  have HQ := Lib.hid hq
  have hbd := (pz_bd hy).its ⟨[], 0, l⟩ (by simp)
  have hpa : 0 < ia.length := by
    have := ((pz_flat h).1.its ⟨[], 0, ia⟩ (by simp)).1
    cases ia with
    | nil => simp [runF] at this
    | cons a l => simp
  have hpb : 0 < ib.length := by
    have := ((pz_flat k).1.its ⟨[], 0, ib⟩ (by simp)).1
    cases ib with
    | nil => simp [runF] at this
    | cons a l => simp
  obtain ⟨n, hn⟩ : ∃ n, n = ia.length := ⟨_, rfl⟩
  obtain ⟨m, hm⟩ : ∃ m, m = ib.length := ⟨_, rfl⟩
  have hn2 : l.length = n + m + 1 := by have := congrArg List.length hl; rw [hn, hm]; simp at this; omega
  have hb7 : n + m + 1 ≤ 70000 := by rw [← hn2]; exact hbd.2.1
  have HB := Lib.hid (And.intro hn.symm (And.intro hm.symm (And.intro hn2 (And.intro hl (show ∀ x ∈ l, Sm 1000000 x from fun x hx => ⟨Nat.le_trans (hbd.2.2 x hx).1 (by decide), (hbd.2.2 x hx).2⟩)))))
  have hn0 : 0 < n := by omega
  have hm0 : 0 < m := by omega
  obtain ⟨i0, hi, hz0, hz1, hz2⟩ := info_parts infoI
  have HI := Lib.hid (And.intro hi (And.intro hz0 (And.intro hz1 hz2)))
  clear hi hz0 hz1 hz2
  clear h k hp hq hy hl hbd hn hm hn2 hpa hpb
  have hsz : s.size ≤ 140737488355000 := by have := HP.out.1; omega
  have htz : t.size ≤ 140737488355000 := by have := HQ.out.1; omega
  have hz : (rgS s t).size ≤ 140737488355328 := by
    rw [← len_s, rgS_list]
    have := HP.out.1
    have h2 := HQ.out.1
    rw [← len_s] at this h2
    simp only [List.length_append, List.length_cons]
    show 4 + _ ≤ _
    omega
  go_enter Tryd.func8, Tryd.ntmps8
  go_wp2_with fail
  refine (shown4_any _ hL).mono ?_
  rintro e W1 ⟨rfl, b1⟩
  have B := Lib.hid b1
  clear b1
  go_wp2_with fail
  refine (plain_yes s 10000 _ HP.out (by decide)).mono ?_
  rintro e W1a ⟨rfl, e1⟩
  subst e1
  go_wp2_with fail
  refine (plain_yes t 10000 _ HQ.out (by decide)).mono ?_
  rintro e W1b ⟨rfl, e1⟩
  subst e1
  go_wp2_with fail
  refine (out_its s _ _ n HB.out.1 hx.out (hL.below B.out) hsz).mono ?_
  rintro e W2 ⟨A2, c2, rfl, r2, hc2, b2⟩
  replace B := Lib.hid (up2 B.out b2)
  have R2 := Lib.hid r2
  clear b2 r2
  go_wp2_with fail
  refine (out_its t _ _ m HB.out.2.1 hx2.out (hL.below B.out) htz).mono ?_
  rintro e W3 ⟨A3, c3, rfl, r2, hc3, b2⟩
  replace B := Lib.hid (up2 B.out b2)
  replace R2 := Lib.hid (rdIt_below R2.out b2)
  have R3 := Lib.hid r2
  clear b2 r2
  go_wp2_with fail
  refine (parse_is (rgS s t) _ _ 0 1 HY.out rfl rfl (hL.below B.out) hz).mono ?_
  rintro e W4 ⟨Ai4, ci4, Al4, cl4, rfl, hr, b4, _, _⟩
  have hu := up2 b4 (pfw_bel W4 Ai4 0 ci4 Al4 1 cl4 0 0)
  obtain ⟨f3, f4, f0, f1, f2⟩ := PFAt.new W4 Ai4 0 ci4 Al4 1 cl4 0 0
  obtain ⟨g, rfl, hg, hl⟩ := (hr.below (pfw_bel W4 Ai4 0 ci4 Al4 1 cl4 0 0)).lns (show 0 < 1 by decide)
  obtain ⟨_, _, A, c, x0, x1, x2⟩ := hl 0 (show 0 < 1 by decide)
  have x0 : (pfW W4 Ai4 0 ci4 (some ⟨g, 0, none⟩) 1 cl4 0 0).cell? ⟨g, 2, none⟩ = some (.slice A (n + m + 1) c) := by rw [← HB.out.2.2.1]; exact x0
  obtain ⟨bx, ox, mx, rfl, lx, ex, nx, rx⟩ := items_rows (rdIt_below R2.out hu) (by rw [HB.out.1]; exact hn0)
  obtain ⟨by', oy, my, rfl, ly, ey, ny, ry⟩ := items_rows (rdIt_below R3.out hu) (by rw [HB.out.2.1]; exact hm0)
  have hmx : mx.length = n := by rw [← HB.out.1, ← ex, List.length_map]
  have hmy : my.length = m := by rw [← HB.out.2.1, ← ey, List.length_map]
  have hzv : (pfW W4 Ai4 0 ci4 (some ⟨g, 0, none⟩) 1 cl4 0 0).heap.size = W4.heap.size + 2 := by unfold pfW; simp
  have B3 := Lib.hid (up2 B.out hu)
  obtain ⟨V, hV⟩ : ∃ V, V = pfW W4 Ai4 0 ci4 (some ⟨g, 0, none⟩) 1 cl4 0 0 := ⟨_, rfl⟩
  have hE : (W4.alloc (.cells #[.slice Ai4 0 ci4, .slice (some ⟨g, 0, none⟩) 1 cl4] 26)).alloc (.cells #[.int .i64 0, .int .i64 0] 29) = V := hV.symm
  rw [← hV] at f0 f1 f2 f3 f4 x0 x2 hg B3 lx nx rx ly ny ry hzv
  have F := Lib.hid (And.intro f0 (And.intro f1 (And.intro f3 (And.intro f4 (And.intro x0 x2)))))
  have X := Lib.hid (And.intro (And.intro ex (And.intro nx rx)) (And.intro ey (And.intro ny ry)))
  have LX := Lib.hid (And.intro lx (And.intro ly (And.intro hg f2)))
  have HMX := Lib.hid (And.intro hmx hmy)
  have HZV := Lib.hid hzv
  rw [hV] at f0 f1 f2 f3 f4 x0
  unfold pfW at f0 f1 f2 f3 f4 x0
  have HVZ := Lib.hid (show ((W4.alloc (.cells #[.slice Ai4 0 ci4, .slice (some ⟨g, 0, none⟩) 1 cl4] 26)).alloc (.cells #[.int .i64 0, .int .i64 0] 29)).heap.size = W4.heap.size + 1 + 1 by simp)
  have HE := Lib.hid hE
  have HO1 := Lib.hid (show (((W4.alloc (.cells #[.slice Ai4 0 ci4, .slice (some ⟨g, 0, none⟩) 1 cl4] 26)).alloc (.cells #[.int .i64 0, .int .i64 0] 29)).alloc (.cells #[] 52)).ownsRow (W4.heap.size + 1 + 1) 52 5 (.slice (some ⟨W4.heap.size + 1 + 1, 0, none⟩) 0 0) 0 [] by
    have h := World.ownsRow_made (base := W4.heap.size + 1 + 1) (e := 52) (size := 5) ((W4.alloc (.cells #[.slice Ai4 0 ci4, .slice (some ⟨g, 0, none⟩) 1 cl4] 26)).alloc (.cells #[.int .i64 0, .int .i64 0] 29)) #[] 0 (by rw [HVZ.out]; exact Nat.le_refl _) (by decide) rfl
    rw [HVZ.out] at h
    exact h)
  have HNX := Lib.hid (show ∀ (j : Nat) (u : Value), (mx.flatMap IM.cells)[j]? = some u → (((W4.alloc (.cells #[.slice Ai4 0 ci4, .slice (some ⟨g, 0, none⟩) 1 cl4] 26)).alloc (.cells #[.int .i64 0, .int .i64 0] 29)).alloc (.cells #[] 52)).cell? ((⟨bx, ox, none⟩ : Addr).add j) = some u by
    rw [hE]; exact news_below (up _) lx nx)
  have hb3 : n + m ≤ 70000 := by omega
  clear hu b4 hr hl x1 x2 hV ex nx rx ey ny ry lx ly hg hmx hmy hzv hE
  go_wp2_with (first
    | (at_builtin; refine wpList_append_lies _ rfl (.tmp 63) (.tmp 64) _ rfl (W4.heap.size + 1 + 1) 52 i0 _ 5 64 Tryd.underlying39 HI.out.1 HI.out.2.1 HI.out.2.2.1 HI.out.2.2.2 rfl (by omega)  (.slice (some ⟨W4.heap.size + 1 + 1, 0, none⟩) 0 0) 0 [] rfl HO1.out ⟨bx, ox, none⟩ n c2 (mx.flatMap IM.cells) rfl (by rw [flatI_len, HMX.out.1]) HNX.out (ones_all mx) hn0 (by unfold maxLen; omega) (by omega) (by first | (simp; done) | (simp; omega)) (W4.heap.size + 1 + 1 + 1) (by simp) ?_; intro g5 cap5 w5 hown5 hgrow5 _ _; simp only [Nat.zero_add, List.nil_append] at hown5 ⊢; have hb5 := Below.grown ((Below.refl (W4.heap.size + 1 + 1) ((W4.alloc (.cells #[.slice Ai4 0 ci4, .slice (some ⟨g, 0, none⟩) 1 cl4] 26)).alloc (.cells #[.int .i64 0, .int .i64 0] 29))).alloc (by rw [HVZ.out]; exact Nat.le_refl _) (.cells #[] 52)) hgrow5 (by first | (simp; done) | (simp; omega)) (fun k hk => (World.ownsRow.lt HO1.out k hk).1); have H5 := Lib.hid (And.intro hown5 (show Below V.heap.size V w5 by rw [HE.out] at hb5; rw [HZV.out]; exact hb5)); clear hown5 hgrow5 hb5)
    | (at_builtin; refine wpList_append_lies _ rfl (.tmp 65) (.tmp 66) _ rfl (W4.heap.size + 1 + 1) 52 i0 _ 5 64 Tryd.underlying39 HI.out.1 HI.out.2.1 HI.out.2.2.1 HI.out.2.2.2 rfl (by omega)  (.slice (some ⟨g5, 0, none⟩) n cap5) n (mx.flatMap IM.cells) rfl H5.out.1 ⟨by', oy, none⟩ m c3 (my.flatMap IM.cells) rfl (by rw [flatI_len, HMX.out.2]) (news_below H5.out.2 LX.out.2.1 X.out.2.2.1) (ones_all my) hm0 (by unfold maxLen; omega) (by omega) (by have := H5.out.2.size; rw [HZV.out] at this; exact this) w5.heap.size rfl ?_; intro g6 cap6 w6 hown6 hgrow6 _ _; have hb6 := Below.grown H5.out.2 hgrow6 H5.out.2.size (fun k hk => by rw [HZV.out]; exact (World.ownsRow.lt H5.out.1 k hk).1); have H6 := Lib.hid (And.intro hown6 hb6); clear hown6 hgrow6 hb6)
    | (at_builtin; refine wpList_append_lies _ rfl (.tmp 68) (.tmp 70) _ rfl (W4.heap.size + 1 + 1) 52 i0 _ 5 64 Tryd.underlying39 HI.out.1 HI.out.2.1 HI.out.2.2.1 HI.out.2.2.2 rfl (by omega)  (.slice (some ⟨g6, 0, none⟩) (n + m) cap6) (n + m) (mx.flatMap IM.cells ++ my.flatMap IM.cells) rfl (H6.out.1.alloc _) ⟨w6.heap.size, 0, none⟩ 1 1 (IM.cells ⟨mxI, none, 0⟩) rfl rfl (newsN _ _ rfl #[.int .i64 4, .int .i64 0, .int .u8 7, .string ⟨#[]⟩, .slice none 0 0] _) (IM.one _) (by omega) (by unfold maxLen; omega) (by omega) (by have := H6.out.2.size; rw [HZV.out] at this; simp; omega) (w6.heap.size + 1) (by simp) ?_; intro g7 cap7 w7 hown7 hgrow7 _ _; have hb7' := Below.grown (H6.out.2.alloc H6.out.2.size _) hgrow7 (by have := H6.out.2.size; simp; omega) (fun k hk => by rw [HZV.out]; exact (World.ownsRow.lt H6.out.1 k hk).1); have hf3 := LX.out.2.2.2; have k1 := (cell_below hb7' (by omega) 1).trans F.out.2.2.2.1; have k2 := (cell_below hb7' LX.out.2.2.1 2).trans F.out.2.2.2.2.1; have H7 := Lib.hid (And.intro hown7 hb7'); clear hown7 hgrow7 hb7' hf3))
  have hown := H7.out.1
  have hrow : mx.flatMap IM.cells ++ my.flatMap IM.cells ++ IM.cells ⟨mxI, none, 0⟩ = (mx ++ my ++ [(⟨mxI, none, 0⟩ : IM)]).flatMap IM.cells := by simp
  rw [hrow] at hown
  have HR := Lib.hid (show RdIt w7 (some ⟨g7, 0, none⟩) (ia ++ ib ++ [mxI]) by
    have h := row_items hown (by rw [List.length_append, List.length_append, HMX.out.1, HMX.out.2]; rfl) (fun q hq => by
      rcases List.mem_append.1 hq with hq | hq
      · rcases List.mem_append.1 hq with hq | hq
        · exact rdN_below (X.out.1.2.2 q hq) H7.out.2
        · exact rdN_below (X.out.2.2.2 q hq) H7.out.2
      · simp at hq; subst hq; exact RdN.nil _ _ _)
    rw [List.map_append, List.map_append, X.out.1.1, X.out.2.1] at h
    exact h)
  have HZI := Lib.hid (show l.map zI = (ia ++ ib ++ [mxI]).map zI by rw [HB.out.2.2.2.1, List.map_append, List.map_append]; rfl)
  have HLN := Lib.hid (show (ia ++ ib ++ [mxI]).length = n + m + 1 by rw [List.length_append, List.length_append, HB.out.1, HB.out.2.1]; rfl)
  clear hown hrow
  refine (items_eq A (some ⟨g7, 0, none⟩) l (ia ++ ib ++ [mxI]) (n + m + 1) c cap7 _ HB.out.2.2.1 HLN.out (rdIt_below F.out.2.2.2.2.2 H7.out.2) HR.out HZI.out (by omega) HB.out.2.2.2.2).mono ?_
  rintro e W8 ⟨rfl, b8⟩
  have B8 := Lib.hid (up2 (up2 B3.out H7.out.2) b8)
  clear b8
  go_wp2
  go_ret
  exact ⟨rfl, B8.out⟩
theorem walk (s : ByteArray) (_hs : s.size ≤ 140737488355320) (t : ByteArray) (_ht : t.size ≤ 140737488355320) (w : World) (hL : LaidP w) : Calls Tryd.prog 8 #[.string s, .string t] w fun e w' => e = .returned (.bool true) ∧ Below w.heap.size w w' := by
  by_cases hp : plainS s 10000
  · by_cases hq : plainS t 10000
    · have hl : s.data.toList.length ≤ 10000 := by rw [len_s]; exact hp.1
      have hl2 : t.data.toList.length ≤ 10000 := by rw [len_s]; exact hq.1
      cases h : parseR (out4 ++ s.data.toList) with
      | err a c =>
        cases k : parseR (out4 ++ t.data.toList) with
        | err d f => exact walk_bad1 s t w hL hp hq a c h d f k
        | ok q =>
          obtain ⟨its, E, rfl, hE⟩ := out_ok hq.2 hl2 k
          exact walk_bad2 s t w hL hp hq a c h its k
      | ok p =>
        obtain ⟨ia, E, rfl, hE⟩ := out_ok hp.2 hl h
        cases k : parseR (out4 ++ t.data.toList) with
        | err d f => exact walk_bad3 s t w hL hp hq ia h d f k
        | ok q =>
          obtain ⟨ib, E2, rfl, hE2⟩ := out_ok hq.2 hl2 k
          rcases rights hp.2 hl hl2 hE hE2 with ⟨a, c, h1, h2⟩ | ⟨l, h1, h2⟩
          · exact walk_many s t w hL hp hq ia ib h k a c h1 h2
          · exact walk_yes s t w hL hp hq ia ib h k l h1 h2
    · exact walk_no2 s t w hL hp hq
  · exact walk_no1 s t w hL hp
end Go.Proofs.YthdognmppbckbaaDoor.parseRight
