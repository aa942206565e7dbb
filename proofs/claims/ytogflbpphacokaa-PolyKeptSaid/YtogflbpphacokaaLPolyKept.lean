/- The law PolyKept. -/
import Derived.Test.YtogflbpphacokaaPolyLE
import Derived.BigQuiet
namespace Go.Proofs.Ytogflbpphacokaa.polyKept
open Go.ChangeShapes Go.WideShapes Go.ChangeAt Go.RowKit Go.Joins
set_option linter.unusedVariables false
set_option maxRecDepth 100000 in
set_option maxHeartbeats 4000000 in
theorem walk (A0 : Option Addr) (a0 : List Mo) (k0 : Nat) (A1 : Option Addr) (a1 : List Mo) (k1 : Nat) (w : World) (r0 : Rd w w.heap.size A0 a0) (m0 : a0.length ≤ maxLen) (r1 : Rd w w.heap.size A1 a1) (m1 : a1.length ≤ maxLen) :
    Calls Try.prog 11 #[.slice A0 a0.length k0, .slice A1 a1.length k1] w fun e w' => e = .returned (.bool true) ∧ Below w.heap.size w w' := by
  have U0 := Lib.hid r0.1
  have U1 := Lib.hid r1.1
  obtain ⟨a, e, hS⟩ : ∃ a e, addR 1 a0 a1 = (a, e) := ⟨_, _, rfl⟩
  obtain ⟨m, f, hM⟩ : ∃ m g, mulR a0 a1 = (m, g) := ⟨_, _, rfl⟩
  have okA := Lib.hid (show Okl a from by have := add_ok (.inl rfl) U0.out U1.out; rwa [hS] at this)
  have okM := Lib.hid (show Okl m from by have := mul_ok U0.out U1.out; rwa [hM] at this)
  have lA := okA.out.1
  have lM := okM.out.1
  have HM0 := Lib.hid (show ¬ f = 0 → m = [] from fun hf => by have := mulR_else (p := a0) (q := a1) (by rw [hM]; exact hf); rwa [hM] at this)
  have HS := Lib.hid hS
  have HM := Lib.hid hM
  have hx0 := m0
  have hx1 := m1
  unfold maxLen at hx0 hx1
  clear hS hM
  have Hr0 := Lib.hid r0
  clear r0
  have Hr1 := Lib.hid r1
  clear r1
  go_enter Try.func11, Try.ntmps11
  go_wp2_with fail
  refine (shown_any _).mono ?_
  rintro e W1 ⟨rfl, b1⟩
  replace Hr0 := Lib.hid (Hr0.out.below b1)
  replace Hr1 := Lib.hid (Hr1.out.below b1)
  have B := Lib.hid b1
  clear b1
  by_cases h48 : a0.length ≤ 48
  rotate_left
  · go_wp2
    go_ret
    exact ⟨rfl, B.out⟩
  by_cases h49 : a1.length ≤ 48
  rotate_left
  · go_wp2
    go_ret
    exact ⟨rfl, B.out⟩
  go_wp2_with (at_builtin; first | (refine append_rd rfl (.tmp 27) (.tmp 28) rfl W1.heap.size _ rfl (Own.new (w := W1) [] (Nat.le_refl _) (by decide)) A0 a0 k0 rfl (Hr0.out.gr ((Gr.refl _).alloc _)) h48 (by simp) ?_; intro AX cX W2 ox gx) | (refine append_rd rfl (.tmp 30) (.tmp 31) rfl W2.heap.size _ rfl (Own.new (w := W2) [] (Nat.le_refl _) (by decide)) A1 a1 k1 rfl ((Hr1.out.below (grown_empty gx)).gr ((Gr.refl _).alloc _)) h49 (by simp) ?_; intro AY cY W3 oy gy))
  have b2 := grown_empty gx
  have RX := Lib.hid (ox.rd U0.out)
  clear ox gx
  replace Hr0 := Lib.hid (Hr0.out.below b2)
  replace Hr1 := Lib.hid (Hr1.out.below b2)
  replace B := Lib.hid (B.out.trans (b2.mono B.out.size))
  clear b2
  have b3 := grown_empty gy
  have RY := Lib.hid (oy.rd U1.out)
  clear oy gy
  replace Hr0 := Lib.hid (Hr0.out.below b3)
  replace Hr1 := Lib.hid (Hr1.out.below b3)
  replace RX := Lib.hid (RX.out.below b3)
  replace B := Lib.hid (B.out.trans (b3.mono B.out.size))
  clear b3
  refine (calls_is (add_any _ _ _ _ _ _ _ RX.out RY.out m0 m1) HS.out).mono ?_
  rintro e' W4 ⟨A4, c4, rfl, o4, b4⟩
  have O4 := Lib.hid o4
  have B4 := Lib.hid b4
  clear o4 b4
  go_wp2
  go_loopw [41] (fun i wr => ∃ (k : Nat) (L : List Mo), k ≤ a.length ∧ i = .int .i64 k ∧ Mk 77 a k L ∧ Own wr W3.heap.size (.slice A4 a.length c4) L ∧ Below W3.heap.size W3 wr) (fun i _ => a.length - (intOf i).toNat)
  case atStart => exact ⟨0, a, by omega, rfl, Mk.start _ _, O4.out, B4.out⟩
  case round =>
  obtain ⟨k, L, hk, rfl, hu, ho, hb⟩ := hrel
  have HU := Lib.hid hu
  have HO := Lib.hid ho
  have HB := Lib.hid hb
  have hL := hu.1
  clear hu ho hb
  by_cases hlt : k < a.length
  · obtain ⟨g, c', hA, hg, _⟩ := HO.out.form' hL (by omega)
    injection hA with hA1 _ hA2
    subst hA1 hA2
    have n0 := (HO.out.cells7' hL hlt).1
    have f0 := World.ownsRow.frozenAt HO.out.plain (k * 7)
    have q1 := idxM g 0 a.length c4 (k : Int) (by omega) (by omega)
    rw [Int.toNat_natCast, Nat.zero_add] at q1
    go_wp2
    clear n0 f0 q1
    go_roundw
    case rel => exact ⟨k + 1, L.set k { nth L k with n := 77 }, by omega, by go_num, HU.out.step hlt, HO.out.mark 77 hL hlt, HB.out.setCell (p := ⟨g, k * 7, none⟩) hg _⟩
    case measure => simp [intOf]; omega
  obtain rfl : k = a.length := by omega
  clear hk hlt
  clear O4 B4
  obtain ⟨W5, hW5⟩ : ∃ W5, W5 = wr := ⟨_, rfl⟩
  subst hW5
  have OA := HO
  have MA := HU
  have LA := hL
  replace Hr0 := Lib.hid (Hr0.out.below HB.out)
  replace Hr1 := Lib.hid (Hr1.out.below HB.out)
  replace RX := Lib.hid (RX.out.below HB.out)
  replace RY := Lib.hid (RY.out.below HB.out)
  replace B := Lib.hid (B.out.trans (HB.out.mono B.out.size))
  clear HO HU HB hL
  obtain ⟨LL, hLL⟩ : ∃ LL, LL = L := ⟨_, rfl⟩
  subst hLL
  go_wp2_with fail
  refine (calls_is (mul_any _ _ _ _ _ _ _ RX.out RY.out m0 m1) HM.out).mono ?_
  rintro e' W6 ⟨A6, c6, rfl, o6, b6⟩
  have O6 := Lib.hid o6
  have B6 := Lib.hid b6
  clear o6 b6
  go_wp2
  go_loopw [57] (fun i wr => ∃ (k : Nat) (L : List Mo), k ≤ m.length ∧ i = .int .i64 k ∧ Mk 78 m k L ∧ Own wr W5.heap.size (.slice A6 m.length c6) L ∧ Below W5.heap.size W5 wr) (fun i _ => m.length - (intOf i).toNat)
  case atStart => exact ⟨0, m, by omega, rfl, Mk.start _ _, O6.out, B6.out⟩
  case round =>
  obtain ⟨k, L, hk, rfl, hu, ho, hb⟩ := hrel
  have HU := Lib.hid hu
  have HO := Lib.hid ho
  have HB := Lib.hid hb
  have hL := hu.1
  clear hu ho hb
  by_cases hlt : k < m.length
  · obtain ⟨g, c', hA, hg, _⟩ := HO.out.form' hL (by omega)
    injection hA with hA1 _ hA2
    subst hA1 hA2
    have n0 := (HO.out.cells7' hL hlt).1
    have f0 := World.ownsRow.frozenAt HO.out.plain (k * 7)
    have q1 := idxM g 0 m.length c6 (k : Int) (by omega) (by omega)
    rw [Int.toNat_natCast, Nat.zero_add] at q1
    go_wp2
    clear n0 f0 q1
    go_roundw
    case rel => exact ⟨k + 1, L.set k { nth L k with n := 78 }, by omega, by go_num, HU.out.step hlt, HO.out.mark 78 hL hlt, HB.out.setCell (p := ⟨g, k * 7, none⟩) hg _⟩
    case measure => simp [intOf]; omega
  obtain rfl : k = m.length := by omega
  clear hk hlt
  clear O6 B6 HU hL HO
  obtain ⟨W7, hW7⟩ : ∃ W7, W7 = wr := ⟨_, rfl⟩
  subst hW7
  replace Hr0 := Lib.hid (Hr0.out.below HB.out)
  replace Hr1 := Lib.hid (Hr1.out.below HB.out)
  replace RX := Lib.hid (RX.out.below HB.out)
  replace RY := Lib.hid (RY.out.below HB.out)
  replace OA := Lib.hid (OA.out.below HB.out)
  replace B := Lib.hid (B.out.trans (HB.out.mono B.out.size))
  clear HB
  go_wp2_with fail
  refine (calls_is (add_any _ _ _ _ _ _ _ RX.out RY.out m0 m1) HS.out).mono ?_
  rintro e' W8 ⟨A8, c8, rfl, o8, b8⟩
  have O8 := Lib.hid o8
  replace Hr0 := Lib.hid (Hr0.out.below b8)
  replace Hr1 := Lib.hid (Hr1.out.below b8)
  replace RX := Lib.hid (RX.out.below b8)
  replace RY := Lib.hid (RY.out.below b8)
  replace OA := Lib.hid (OA.out.below b8)
  replace B := Lib.hid (B.out.trans (b8.mono B.out.size))
  clear o8 b8
  by_cases hf : f = 0
  rotate_left
  · have hm0 : m.length = 0 := by rw [HM0.out hf]; rfl
    go_wp2
    go_loopw [92] (fun i wr => ∃ (k : Nat), k ≤ a.length ∧ i = .int .i64 k ∧ Gr W8 wr) (fun i _ => a.length - (intOf i).toNat)
    case atStart => exact ⟨0, by omega, rfl, Gr.refl _⟩
    case round =>
    obtain ⟨k, hk, rfl, hg⟩ := hrel
    have HG := Lib.hid hg
    clear hg
    by_cases hlt : k < a.length
    · obtain ⟨g, c', hA, hg, hg2⟩ := OA.out.form' LA (by omega)
      injection hA with hA1 _ hA2
      subst hA1 hA2
      obtain ⟨g8, c8', hA, hg8, hg82⟩ := O8.out.form (by omega)
      injection hA with hA1 _ hA2
      subst hA1 hA2
      have hc := OA.out.cells7' LA hlt
      rw [MA.out.done hlt] at hc
      obtain ⟨n0, n1, n2, n3, n4, n5, n6⟩ := hc.gr hg2 HG.out
      obtain ⟨_, p1, p2, p3, p4, p5, p6⟩ := (O8.out.cells7 hlt).gr hg82 HG.out
      have q1 := idxM g 0 a.length c4 (k : Int) (by omega) (by omega)
      rw [Int.toNat_natCast, Nat.zero_add] at q1
      have q2 := idxM g8 0 a.length c8 (k : Int) (by omega) (by omega)
      rw [Int.toNat_natCast, Nat.zero_add] at q2
      have q3 : ∀ W, (binOp .neq 42 (.agg #[.int .u8 (nth a k).e0, .int .u8 (nth a k).e1, .int .u8 (nth a k).e2, .int .u8 (nth a k).e3, .int .u8 (nth a k).e4, .int .u8 (nth a k).e5]) (.agg #[.int .u8 (nth a k).e0, .int .u8 (nth a k).e1, .int .u8 (nth a k).e2, .int .u8 (nth a k).e3, .int .u8 (nth a k).e4, .int .u8 (nth a k).e5])).run Try.prog W = .ok (.bool false) W := fun W => by rw [neq42]; simp
      clear hc
      go_wp2
      go_quiet (fail)
      obtain ⟨Wt, hWt⟩ : ∃ Wt, Wt = wr.drewN nq := ⟨_, rfl⟩
      rw [← hWt]
      have HGt := Lib.hid (show Gr W8 Wt from by rw [hWt]; exact HG.out.drewN _)
      clear hWt n0 n1 n2 n3 n4 n5 n6 p1 p2 p3 p4 p5 p6 q1 q2 q3
      go_wp2
      go_roundw
      case rel => exact ⟨k + 1, by omega, by go_num, HGt.out⟩
      case measure => simp [intOf]; omega
    obtain rfl : k = a.length := by omega
    replace Hr0 := Lib.hid (Hr0.out.gr HG.out)
    replace Hr1 := Lib.hid (Hr1.out.gr HG.out)
    replace RX := Lib.hid (RX.out.gr HG.out)
    replace RY := Lib.hid (RY.out.gr HG.out)
    replace B := Lib.hid (B.out.trans (HG.out.below.mono B.out.size))
    clear hk hlt HG OA O8
    go_wp2_with fail
    refine (same_self _ _ _ _ _ _ RX.out Hr0.out m0).mono ?_
    rintro e' W9 ⟨rfl, g9⟩
    replace Hr1 := Lib.hid (Hr1.out.gr g9)
    replace RY := Lib.hid (RY.out.gr g9)
    replace B := Lib.hid (B.out.trans (g9.below.mono B.out.size))
    clear g9
    go_wp2_with fail
    refine (same_self _ _ _ _ _ _ RY.out Hr1.out m1).mono ?_
    rintro e' W10 ⟨rfl, g10⟩
    replace B := Lib.hid (B.out.trans (g10.below.mono B.out.size))
    clear g10
    go_wp2
    go_ret
    exact ⟨rfl, B.out⟩
  subst hf
  go_wp2
  go_loopw [92] (fun i wr => ∃ (k : Nat), k ≤ a.length ∧ i = .int .i64 k ∧ Gr W8 wr) (fun i _ => a.length - (intOf i).toNat)
  case atStart => exact ⟨0, by omega, rfl, Gr.refl _⟩
  case round =>
  obtain ⟨k, hk, rfl, hg⟩ := hrel
  have HG := Lib.hid hg
  clear hg
  by_cases hlt : k < a.length
  · obtain ⟨g, c', hA, hg, hg2⟩ := OA.out.form' LA (by omega)
    injection hA with hA1 _ hA2
    subst hA1 hA2
    obtain ⟨g8, c8', hA, hg8, hg82⟩ := O8.out.form (by omega)
    injection hA with hA1 _ hA2
    subst hA1 hA2
    have hc := OA.out.cells7' LA hlt
    rw [MA.out.done hlt] at hc
    obtain ⟨n0, n1, n2, n3, n4, n5, n6⟩ := hc.gr hg2 HG.out
    obtain ⟨_, p1, p2, p3, p4, p5, p6⟩ := (O8.out.cells7 hlt).gr hg82 HG.out
    have q1 := idxM g 0 a.length c4 (k : Int) (by omega) (by omega)
    rw [Int.toNat_natCast, Nat.zero_add] at q1
    have q2 := idxM g8 0 a.length c8 (k : Int) (by omega) (by omega)
    rw [Int.toNat_natCast, Nat.zero_add] at q2
    have q3 : ∀ W, (binOp .neq 42 (.agg #[.int .u8 (nth a k).e0, .int .u8 (nth a k).e1, .int .u8 (nth a k).e2, .int .u8 (nth a k).e3, .int .u8 (nth a k).e4, .int .u8 (nth a k).e5]) (.agg #[.int .u8 (nth a k).e0, .int .u8 (nth a k).e1, .int .u8 (nth a k).e2, .int .u8 (nth a k).e3, .int .u8 (nth a k).e4, .int .u8 (nth a k).e5])).run Try.prog W = .ok (.bool false) W := fun W => by rw [neq42]; simp
    clear hc
    go_wp2
    go_quiet (fail)
    obtain ⟨Wt, hWt⟩ : ∃ Wt, Wt = wr.drewN nq := ⟨_, rfl⟩
    rw [← hWt]
    have HGt := Lib.hid (show Gr W8 Wt from by rw [hWt]; exact HG.out.drewN _)
    clear hWt n0 n1 n2 n3 n4 n5 n6 p1 p2 p3 p4 p5 p6 q1 q2 q3
    go_wp2
    go_roundw
    case rel => exact ⟨k + 1, by omega, by go_num, HGt.out⟩
    case measure => simp [intOf]; omega
  obtain rfl : k = a.length := by omega
  replace Hr0 := Lib.hid (Hr0.out.gr HG.out)
  replace Hr1 := Lib.hid (Hr1.out.gr HG.out)
  replace RX := Lib.hid (RX.out.gr HG.out)
  replace RY := Lib.hid (RY.out.gr HG.out)
  replace B := Lib.hid (B.out.trans (HG.out.below.mono B.out.size))
  clear hk hlt HG OA O8
  go_wp2_with fail
  refine (same_self _ _ _ _ _ _ RX.out Hr0.out m0).mono ?_
  rintro e' W9 ⟨rfl, g9⟩
  replace Hr1 := Lib.hid (Hr1.out.gr g9)
  replace RY := Lib.hid (RY.out.gr g9)
  replace B := Lib.hid (B.out.trans (g9.below.mono B.out.size))
  clear g9
  go_wp2_with fail
  refine (same_self _ _ _ _ _ _ RY.out Hr1.out m1).mono ?_
  rintro e' W10 ⟨rfl, g10⟩
  replace B := Lib.hid (B.out.trans (g10.below.mono B.out.size))
  clear g10
  go_wp2
  go_ret
  exact ⟨rfl, B.out⟩

set_option maxRecDepth 100000 in
set_option maxHeartbeats 1000000 in
theorem lifted (os : Os) (started : os.Started) (H : Type) (enc : TypeId × Value → H) :
    ReturnsInHanded {} Try.checked os 11 .any (Rows.polyKeptSpec.pre6 enc Try.prog Try.f11 Rows.polyKeptRow.domain false) (Rows.polyKeptSpec.post enc Try.prog Try.f11 false true false false) := by
  refine returnsInHanded_of_change (C := Try.checked) lawOwn started (by kernel_rfl) Try.func11
    (ChangeSpec.witness6 (enc := enc) (C := Try.checked) false ⟨#[], #[.slice none 0 0, .slice none 0 0], []⟩ 8 (by kernel_rfl) (by kernel_rfl) (by kernel_rfl) (by kernel_rfl)) ?_
  intro W base args ds gs before hval0 hW hcnd _
  have hval : ∀ (j : Nat) t v, Try.f11.params[j]? = some t → args[j]? = some v → Value.okWide Try.prog W .any base t v := hval0
  have hW' := hW
  obtain ⟨p, q, hA0, hV, rfl, hfz, hnd⟩ := hW
  have hA : DataW.TrodAll enc Try.prog W 0 (fun _ => true) true Try.f11.params.toList args.toList ds p := hA0
  rw [Try.params11] at hA hval
  obtain ⟨rfl, rfl⟩ := trodVars_none hV
  simp only [List.append_nil] at hW'
  obtain ⟨v0, vs0, d0, ds0, p0, q0, hargs, rfl, hp, h0, z0⟩ := trodAll_cons hA
  obtain ⟨v1, vs1, d1, ds1, p1, q1, rfl, rfl, rfl, h1, z1⟩ := trodAll_cons z0
  obtain ⟨rfl, rfl, rfl⟩ := trodAll_nil z1
  obtain rfl : args = #[v0, v1] := by cases args; simp_all
  have hback := fun (W' : World) (hg : Below W.heap.size W W') (sp : Nat → Bool) (hs : ∀ q ∈ p, sp q.block = true) => lawArgsB hg (sp := sp) (by kernel_rfl) hA (fun q hq => hW'.lt q hq) hs
  obtain ⟨x0, y0, k0', rfl⟩ := okWide_slice Try.underlying22 (hval 0 22 v0 rfl rfl)
  obtain ⟨fu0, hf0⟩ := h0
  obtain ⟨A0, a0, k0, e0, r0, m0⟩ := open_poly hf0
  simp [Value.cells] at e0
  obtain ⟨rfl, rfl, rfl⟩ := e0
  obtain ⟨x1, y1, k1', rfl⟩ := okWide_slice Try.underlying22 (hval 1 22 v1 rfl rfl)
  obtain ⟨fu1, hf1⟩ := h1
  obtain ⟨A1, a1, k1, e1, r1, m1⟩ := open_poly hf1
  simp [Value.cells] at e1
  obtain ⟨rfl, rfl, rfl⟩ := e1
  refine (walk _ _ _ _ _ _ W r0 m0 r1 m1).mono fun e W' ⟨he, hg⟩ => ?_
  subst he
  exact ⟨_, rfl, lawPost (pa := p) (pv := []) hW' hg (List.append_nil _).symm (fun _ _ _ => (trodAll_cons_mk (shut_bool Try.underlying4 _) trodAll_mk0)) (fun sp hs => hback W' hg sp hs) (fun _ _ => rfl)
    (ok_one (by kernel_rfl) rfl (okWide_bool_mk Try.underlying4 _))⟩

theorem over : Rows.polyKeptRow.holds Try.pinned (OpenSpec.ofChange Rows.polyKeptSpec) :=
  OpenClaim.holds_of_wide 11 Try.f11 rfl rfl rfl rfl rfl rfl rfl ⟨rfl, rfl, rfl, rfl, rfl⟩ rfl rfl rfl rfl rfl (by kernel_rfl) Try.func11 (by kernel_rfl)
    (of_decide_eq_true (by kernel_rfl)) (by unfold Func.isWrapper; first | (rw [if_pos (by decide +kernel)]; kernel_rfl) | (rw [if_neg (by decide +kernel)]; exact ⟨rfl, rfl⟩))
    (fun os started H enc _ => lifted os started H enc)

/-- The statement. -/
theorem proved : Rows.PolyKeptSaid := over
end Go.Proofs.Ytogflbpphacokaa.polyKept
