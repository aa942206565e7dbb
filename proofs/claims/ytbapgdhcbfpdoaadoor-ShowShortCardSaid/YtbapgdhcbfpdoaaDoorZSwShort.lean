/- The walk of ShowShort. -/
import Derived.Test.YtbapgdhcbfpdoaaDoorZSp
import Derived.Test.YtbapgdhcbfpdoaaDoorZLe
namespace Go.Proofs.YtbapgdhcbfpdoaaDoor.showShort
open Go.RowKit
set_option linter.unusedVariables false
set_option maxRecDepth 100000
set_option maxHeartbeats 3200000 in
theorem walk_err (s : ByteArray) (hs : s.size ≤ 140737488355320) (w : World) (hL : LaidP w) (a c : Int) (hx : parseR s.data.toList = .err a c) : Calls Tryd.prog 5 #[.string s] w (fun e w' => e = .returned (.bool true) ∧ Below w.heap.size w w') := by
  have HX := Lib.hid hx
  have hc0 : c ≠ 0 := by have := (pz_err hx).2; omega
  have hf := fun w => fne a c hc0 w
  clear hx hc0
  go_enter Tryd.func5, Tryd.ntmps5
  go_wp2_with fail
  refine (shown5_any _ hL).mono ?_
  rintro e W1 ⟨rfl, b1⟩
  have B1 := Lib.hid (And.intro b1 (hL.below b1))
  clear b1
  go_wp2_with fail
  refine (parse_no s _ a c HX.out B1.out.2 (by omega)).mono ?_
  rintro e W2 ⟨Ai, ci, Al, cl, rfl, b2⟩
  have hu := two_up2 b2 (pfw_bel W2 Ai 0 ci Al 0 cl a c)
  have P2 := Lib.hid (BP.none (w0 := w) (Ai := Ai) (Al := Al) (ci := ci) (cl := cl) (a := a) (c := c) (two_up2 B1.out.1 b2) (B1.out.2.below b2))
  obtain ⟨f0, f1, f2, f3, f4⟩ := PFAt.new W2 Ai 0 ci Al 0 cl a c
  have hW := Lib.hid (show pfW W2 Ai 0 ci Al 0 cl a c = (W2.alloc (.cells #[.slice Ai 0 ci, .slice Al 0 cl] 25)).alloc (.cells #[.int .i64 a, .int .i64 c] 32) from rfl)
  rw [hW.out] at f0 f1 f2 f3
  clear hu b2 f4
  go_wp2
  go_ret
  exact ⟨rfl, P2.out.bel⟩
set_option maxHeartbeats 3200000 in
theorem walk_long (s : ByteArray) (hs : s.size ≤ 140737488355320) (w : World) (hL : LaidP w) (p : Pg) (hx : parseR s.data.toList = .ok p) (h2 : showP p = ([], 30)) : Calls Tryd.prog 5 #[.string s] w (fun e w' => e = .returned (.bool true) ∧ Below w.heap.size w w') := by
  have HQP := Lib.hid hx
  have HX := Lib.hid h2
  have hf := fun w => fne0 w
  clear hx h2
  go_enter Tryd.func5, Tryd.ntmps5
  go_wp2_with fail
  refine (shown5_any _ hL).mono ?_
  rintro e W1 ⟨rfl, b1⟩
  have B1 := Lib.hid (And.intro b1 (hL.below b1))
  clear b1
  go_wp2_with fail
  refine (parse_is s _ p _ _ HQP.out rfl rfl B1.out.2 (by omega)).mono ?_
  rintro e W2 ⟨AP, cP, EP, dP, rfl, hr, b2, hci, hck⟩
  have hu := two_up2 b2 (pfw_bel W2 AP p.ins.length cP EP p.lns.length dP 0 0)
  have P2 := Lib.hid (BP.read (w0 := w) HQP.out rfl rfl hr hci hck (two_up2 B1.out.1 b2) (B1.out.2.below b2))
  obtain ⟨f0, f1, f2, f3, f4⟩ := PFAt.new W2 AP p.ins.length cP EP p.lns.length dP 0 0
  have hW2 := Lib.hid (show pfW W2 AP p.ins.length cP EP p.lns.length dP 0 0 = (W2.alloc (.cells #[.slice AP p.ins.length cP, .slice EP p.lns.length dP] 25)).alloc (.cells #[.int .i64 0, .int .i64 0] 32) from rfl)
  rw [hW2.out] at f0 f1 f2 f3
  clear hu b2 hr f4
  go_wp2_with fail
  rw [← hW2.out]
  refine (show5_any _ p AP EP _ cP _ dP P2.out.la P2.out.pa).mono ?_
  rintro e W3 ⟨rfl, b3⟩
  rw [HX.out]
  have P3 := Lib.hid (P2.out.next b3)
  clear b3 f0 f1 f2 f3
  go_wp2
  go_ret
  exact ⟨rfl, P3.out.bel⟩
set_option maxHeartbeats 3200000 in
theorem walk_full (s : ByteArray) (hs : s.size ≤ 140737488355320) (w : World) (hL : LaidP w) (p : Pg) (hx : parseR s.data.toList = .ok p) (u : List UInt8) (hl : u.length ≤ 65536) (h2 : showP p = (u, 0)) (hs2 : s.size = 65536) (b : List Tk) (hu : lexR u = .ok b) (x : Rs) (hxx : lexR (s.data.toList ++ [10]) = x) : Calls Tryd.prog 5 #[.string s] w (fun e w' => e = .returned (.bool true) ∧ Below w.heap.size w w') := by
  have HQP := Lib.hid hx
  have HX := Lib.hid h2
  have hf := fun w => fne0 w
  have hg := fun w => feq0 w
  have hsz : (bs u).size ≤ 65536 := by rw [bs_size]; exact hl
  have hn : (s ++ ⟨#[10]⟩ : ByteArray).data.toList = s.data.toList ++ [10] := app_list s ⟨#[10]⟩
  have hnz : (s ++ ⟨#[10]⟩ : ByteArray).size ≤ 140737488355328 := by rw [← len_s, hn, List.length_append, len_s]; show s.size + 1 ≤ _; omega
  obtain ⟨S1, hS1⟩ : ∃ S1, S1 = s ++ (⟨#[10]⟩ : ByteArray) := ⟨_, rfl⟩
  rw [← hS1] at hn hnz
  have HN := Lib.hid (And.intro hn hnz)
  have HS1 := Lib.hid hS1
  clear hS1
  have HU := Lib.hid hu
  have HV := Lib.hid hxx
  have HE := Lib.hid (show ((s.size : Int) == 65536) = true by rw [beq_iff_eq]; omega)
  clear hu hxx hs2
  clear hx h2 hl hn hnz
  go_enter Tryd.func5, Tryd.ntmps5
  go_wp2_with fail
  refine (shown5_any _ hL).mono ?_
  rintro e W1 ⟨rfl, b1⟩
  have B1 := Lib.hid (And.intro b1 (hL.below b1))
  clear b1
  go_wp2_with fail
  refine (parse_is s _ p _ _ HQP.out rfl rfl B1.out.2 (by omega)).mono ?_
  rintro e W2 ⟨AP, cP, EP, dP, rfl, hr, b2, hci, hck⟩
  have hu := two_up2 b2 (pfw_bel W2 AP p.ins.length cP EP p.lns.length dP 0 0)
  have P2 := Lib.hid (BP.read (w0 := w) HQP.out rfl rfl hr hci hck (two_up2 B1.out.1 b2) (B1.out.2.below b2))
  obtain ⟨f0, f1, f2, f3, f4⟩ := PFAt.new W2 AP p.ins.length cP EP p.lns.length dP 0 0
  have hW2 := Lib.hid (show pfW W2 AP p.ins.length cP EP p.lns.length dP 0 0 = (W2.alloc (.cells #[.slice AP p.ins.length cP, .slice EP p.lns.length dP] 25)).alloc (.cells #[.int .i64 0, .int .i64 0] 32) from rfl)
  rw [hW2.out] at f0 f1 f2 f3
  clear hu b2 hr f4
  go_wp2_with fail
  rw [← hW2.out]
  refine (show5_any _ p AP EP _ cP _ dP P2.out.la P2.out.pa).mono ?_
  rintro e W3 ⟨rfl, b3⟩
  rw [HX.out]
  have P3 := Lib.hid (P2.out.next b3)
  clear b3 f0 f1 f2 f3
  go_wp2_with fail
  rw [← HS1.out]
  refine (lex_at S1 _ x (by rw [HN.out.1]; exact HV.out) P3.out.la.1 HN.out.2).mono ?_
  rintro e W4 ⟨A4, c4, rfl, _, b4⟩
  have P4 := Lib.hid ((P3.out.next b4).next (alloc_bel _ (.cells #[.int .i64 x.fa, .int .i64 x.fe] 32)))
  have k0 := Lib.hid (heap_alloc_new W4 (.cells #[.int .i64 x.fa, .int .i64 x.fe] 32))
  clear b4
  go_wp2_with fail
  refine (lex_at (bs u) _ (.ok b) (by rw [bs_list]; exact HU.out) P4.out.la.1 (by omega)).mono ?_
  rintro e W5 ⟨A5, c5, rfl, _, b5⟩
  have hk := (b5.block W4.heap.size (by simp)).trans k0.out
  have k1 : W5.cell? ⟨W4.heap.size, 0, none⟩ = some (.int .i64 x.fa) := by rw [cell_of_row _ _ _ _ _ _ hk]; first | done | rfl
  have k2 : W5.cell? ⟨W4.heap.size, 1, none⟩ = some (.int .i64 x.fe) := by rw [cell_of_row _ _ _ _ _ _ hk]; first | done | rfl
  have P5 := Lib.hid ((P4.out.next b5).next (alloc_bel _ (.cells #[.int .i64 0, .int .i64 0] 32)))
  have hlk := heap_lt hk
  clear b5 hk
  rw [show (Rs.ok b).fa = 0 from rfl, show (Rs.ok b).fe = 0 from rfl]
  have he := HE.out
  clear hs hsz
  go_wp2
  go_ret
  exact ⟨rfl, P5.out.bel⟩
set_option maxHeartbeats 3200000 in
theorem walk_less (s : ByteArray) (hs : s.size ≤ 140737488355320) (w : World) (hL : LaidP w) (p : Pg) (hx : parseR s.data.toList = .ok p) (u : List UInt8) (hl : u.length ≤ 65536) (h2 : showP p = (u, 0)) (hs2 : s.size < 65536) (a b : List Tk) (ha : lexR (s.data.toList ++ [10]) = .ok a) (hu : lexR u = .ok b) (hab : b.length ≤ a.length) : Calls Tryd.prog 5 #[.string s] w (fun e w' => e = .returned (.bool true) ∧ Below w.heap.size w w') := by
  have HQP := Lib.hid hx
  have HX := Lib.hid h2
  have hf := fun w => fne0 w
  have hg := fun w => feq0 w
  have hsz : (bs u).size ≤ 65536 := by rw [bs_size]; exact hl
  have hn : (s ++ ⟨#[10]⟩ : ByteArray).data.toList = s.data.toList ++ [10] := app_list s ⟨#[10]⟩
  have hnz : (s ++ ⟨#[10]⟩ : ByteArray).size ≤ 140737488355328 := by rw [← len_s, hn, List.length_append, len_s]; show s.size + 1 ≤ _; omega
  obtain ⟨S1, hS1⟩ : ∃ S1, S1 = s ++ (⟨#[10]⟩ : ByteArray) := ⟨_, rfl⟩
  rw [← hS1] at hn hnz
  have HN := Lib.hid (And.intro hn hnz)
  have HS1 := Lib.hid hS1
  clear hS1
  have HU := Lib.hid hu
  have HV := Lib.hid ha
  have HE := Lib.hid (show ((s.size : Int) == 65536) = false by rw [beq_eq_false_iff_ne]; omega)
  have HD := Lib.hid (show decide (b.length ≤ a.length) = true from decide_eq_true hab)
  clear hu ha hs2 hab
  clear hx h2 hl hn hnz
  go_enter Tryd.func5, Tryd.ntmps5
  go_wp2_with fail
  refine (shown5_any _ hL).mono ?_
  rintro e W1 ⟨rfl, b1⟩
  have B1 := Lib.hid (And.intro b1 (hL.below b1))
  clear b1
  go_wp2_with fail
  refine (parse_is s _ p _ _ HQP.out rfl rfl B1.out.2 (by omega)).mono ?_
  rintro e W2 ⟨AP, cP, EP, dP, rfl, hr, b2, hci, hck⟩
  have hu := two_up2 b2 (pfw_bel W2 AP p.ins.length cP EP p.lns.length dP 0 0)
  have P2 := Lib.hid (BP.read (w0 := w) HQP.out rfl rfl hr hci hck (two_up2 B1.out.1 b2) (B1.out.2.below b2))
  obtain ⟨f0, f1, f2, f3, f4⟩ := PFAt.new W2 AP p.ins.length cP EP p.lns.length dP 0 0
  have hW2 := Lib.hid (show pfW W2 AP p.ins.length cP EP p.lns.length dP 0 0 = (W2.alloc (.cells #[.slice AP p.ins.length cP, .slice EP p.lns.length dP] 25)).alloc (.cells #[.int .i64 0, .int .i64 0] 32) from rfl)
  rw [hW2.out] at f0 f1 f2 f3
  clear hu b2 hr f4
  go_wp2_with fail
  rw [← hW2.out]
  refine (show5_any _ p AP EP _ cP _ dP P2.out.la P2.out.pa).mono ?_
  rintro e W3 ⟨rfl, b3⟩
  rw [HX.out]
  have P3 := Lib.hid (P2.out.next b3)
  clear b3 f0 f1 f2 f3
  go_wp2_with fail
  rw [← HS1.out]
  refine (lex_at S1 _ (.ok a) (by rw [HN.out.1]; exact HV.out) P3.out.la.1 HN.out.2).mono ?_
  rintro e W4 ⟨A4, c4, rfl, _, b4⟩
  have P4 := Lib.hid ((P3.out.next b4).next (alloc_bel _ (.cells #[.int .i64 (Rs.ok a).fa, .int .i64 (Rs.ok a).fe] 32)))
  have k0 := Lib.hid (heap_alloc_new W4 (.cells #[.int .i64 (Rs.ok a).fa, .int .i64 (Rs.ok a).fe] 32))
  clear b4
  go_wp2_with fail
  refine (lex_at (bs u) _ (.ok b) (by rw [bs_list]; exact HU.out) P4.out.la.1 (by omega)).mono ?_
  rintro e W5 ⟨A5, c5, rfl, _, b5⟩
  have hk := (b5.block W4.heap.size (by simp)).trans k0.out
  have k1 : W5.cell? ⟨W4.heap.size, 0, none⟩ = some (.int .i64 (Rs.ok a).fa) := by rw [cell_of_row _ _ _ _ _ _ hk]; first | done | rfl
  have k2 : W5.cell? ⟨W4.heap.size, 1, none⟩ = some (.int .i64 (Rs.ok a).fe) := by rw [cell_of_row _ _ _ _ _ _ hk]; first | done | rfl
  have P5 := Lib.hid ((P4.out.next b5).next (alloc_bel _ (.cells #[.int .i64 0, .int .i64 0] 32)))
  have hlk := heap_lt hk
  clear b5 hk
  have k1 : W5.cell? ⟨W4.heap.size, 0, none⟩ = some (.int .i64 0) := k1
  have k2 : W5.cell? ⟨W4.heap.size, 1, none⟩ = some (.int .i64 0) := k2
  have e1 : (Rs.ok b).toks.length = b.length := rfl
  have e2 : (Rs.ok a).toks.length = a.length := rfl
  have e3 : (Rs.ok b).fa = 0 := rfl
  have e4 : (Rs.ok b).fe = 0 := rfl
  rw [e1, e3, e4]
  rw [e2]
  have he := HE.out
  clear hs hsz
  go_wp2
  go_ret
  refine ⟨?_, P5.out.bel⟩
  show Ending.returned (.bool (decide (b.length ≤ a.length))) = _
  rw [HD.out]
theorem walk (s : ByteArray) (hs : s.size ≤ 140737488355320) (w : World) (hL : LaidP w) : Calls Tryd.prog 5 #[.string s] w (fun e w' => e = .returned (.bool true) ∧ Below w.heap.size w w') := by
  cases hx : parseR s.data.toList with
  | err a c => exact walk_err s hs w hL a c hx
  | ok p =>
    have hr := pz_rng hx
    rcases read_show hx hr with ⟨u, h1, _, h2⟩ | ⟨u, q, h2, h3, h4, h5⟩
    · exact walk_long s hs w hL p hx h2
    · obtain ⟨a, b, ha, hb, hab⟩ := read_short hx (showP_ok h2).1 hr
      have hlu := (showP_ok h2).2
      have hub : lexR u = .ok b := by unfold lexR; rw [if_neg (by omega)]; exact hb
      have hsl : s.size ≤ 65536 := by
        rw [← len_s]
        exact Nat.le_of_not_lt fun hgt => by
          have : lexR s.data.toList = .err 0 30 := by unfold lexR; rw [if_pos hgt]
          rw [pz_bad this] at hx; cases hx
      by_cases hf : s.size = 65536
      · exact walk_full s hs w hL p hx u hlu h2 hf b hub _ rfl
      · refine walk_less s hs w hL p hx u hlu h2 (by omega) a b ?_ hub hab
        unfold lexR
        rw [if_neg (by rw [List.length_append, len_s]; show ¬ 65536 < s.size + 1; omega)]
        exact ha
end Go.Proofs.YtbapgdhcbfpdoaaDoor.showShort
