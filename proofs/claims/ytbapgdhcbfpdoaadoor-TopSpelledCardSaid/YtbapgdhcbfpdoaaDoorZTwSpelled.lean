/- The walk of TopSpelled. -/
import Derived.Test.YtbapgdhcbfpdoaaDoorZTa
namespace Go.Proofs.YtbapgdhcbfpdoaaDoor.topSpelled
open Go.RowKit
set_option linter.unusedVariables false
set_option maxRecDepth 100000
theorem step_blank {U U2 : List UInt8} {us us2 l : List Tk} {j n c : Nat} {t : Tk} (h : SpJ U us ∧ us.map zT = (l.take j).map zT) (ht : Sp t) (htl : t = nth l j) (hn : l.length = n) (hj : j < n) (h2 : (c = 0 → U2 = U ++ txt t) ∧ (c ≠ 0 → SpJ U2 us2 ∧ us2.map zT = (l.take (j + 1)).map zT)) :
    ∃ us3, SpJ (U2 ++ [32]) us3 ∧ us3.map zT = (l.take (j + 1)).map zT := by
  by_cases hc : c = 0
  · rw [h2.1 hc]
    refine ⟨_, h.1.snoc ht, ?_⟩
    rw [List.map_append, h.2, List.take_succ_eq_append_getElem (by omega), List.map_append]
    congr 1
    rw [htl, nth_get (by omega)]
    rfl
  · exact ⟨us2, (h2.2 hc).1.blank, (h2.2 hc).2⟩
set_option maxHeartbeats 3200000 in
theorem walk_err (s : ByteArray) (hs : s.size ≤ 140737488355320) (y : Int) (hy : 0 ≤ y ∧ y ≤ 255) (w : World) (hL : LaidP w) (a c : Int) (hx : parseR s.data.toList = .err a c) : Calls Tryd.prog 7 #[.string s, .int .u8 y] w (fun e w' => e = .returned (.bool true) ∧ Below w.heap.size w w') := by
  have HX := Lib.hid hx
  have hc0 : c ≠ 0 := by have := (pz_err hx).2; omega
  have hf := fun w => fne a c hc0 w
  clear hx hc0
  go_enter Tryd.func7, Tryd.ntmps7
  go_wp2_with fail
  refine (parse_is ⟨#[111, 117, 116, 32, 49, 43, 50]⟩ _ pgT 0 1 readT rfl rfl hL (by decide)).mono ?_
  rintro e W1 ⟨Ai1, ci1, Al1, cl1, rfl, _, b1, _, _⟩
  have hu := two_up2 b1 (pfw_bel W1 Ai1 0 ci1 Al1 1 cl1 0 0)
  obtain ⟨V1, hV1⟩ : ∃ V, V = pfW W1 Ai1 0 ci1 Al1 1 cl1 0 0 := ⟨_, rfl⟩
  have hE1 : (W1.alloc (.cells #[.slice Ai1 0 ci1, .slice Al1 1 cl1] 25)).alloc (.cells #[.int .i64 0, .int .i64 0] 32) = V1 := hV1.symm
  have x1 : V1.heap[W1.heap.size]? = some (.cells #[.slice Ai1 0 ci1, .slice Al1 1 cl1] 25 (0, 0)) := by rw [← hE1]; exact box1 W1 _ _
  have x2 : V1.heap[W1.heap.size + 1]? = some (.cells #[.int .i64 0, .int .i64 0] 32 (0, 0)) := by rw [← hE1]; exact box2 W1 _ _
  rw [← hV1] at hu
  have X1 := Lib.hid (show BX w W1.heap.size V1 from ⟨⟨_, _, x1⟩, ⟨_, _, x2⟩, hu, hL.below hu, b1.size⟩)
  have HE1 := Lib.hid hE1
  obtain ⟨k, hk⟩ : ∃ k, k = W1.heap.size := ⟨_, rfl⟩
  rw [← hk] at X1
  have HK := Lib.hid hk
  have HL := Lib.hid hL
  have hf0 := fun w => fne0 w
  clear x1 x2 hu hE1 hV1 b1 hk hL
  go_wp2_with fail
  rw [HE1.out, ← HK.out]
  refine (parse_no s _ a c HX.out X1.out.la (by omega)).mono ?_
  rintro e W2 ⟨Ai, ci, Al, cl, rfl, b2⟩
  have X2 := X1.out.next b2
  obtain ⟨z1, z2, z3, z4, ⟨_, _, z5, z6⟩, ⟨_, _, z7, z8⟩⟩ := X2.frz
  have S3 := Lib.hid (SB.of (p := ⟨[], []⟩) (Ai := Ai) (n := 0) (ci := ci) (Al := Al) (m := 0) (cl := cl) (a := a) (c := c) X2 HL.out (pa_empty _ _ _ _ _))
  have HS3 := Lib.hid (show (((W2.setCell ⟨k, 0, none⟩ (.slice Ai 0 ci)).setCell ⟨k, 1, none⟩ (.slice Al 0 cl)).setCell ⟨k + 1, 0, none⟩ (.int .i64 a)).setCell ⟨k + 1, 1, none⟩ (.int .i64 c) = st4 W2 k (.slice Ai 0 ci) (.slice Al 0 cl) (.int .i64 a) (.int .i64 c) from rfl)
  clear b2
  go_wp2_with fail
  rw [HS3.out]
  clear z1 z2 z3 z4 z5 z6 z7 z8 X2
  obtain ⟨W3, hW3⟩ : ∃ W, W = st4 W2 k (.slice Ai 0 ci) (.slice Al 0 cl) (.int .i64 a) (.int .i64 c) := ⟨_, rfl⟩
  rw [← hW3] at S3 ⊢
  clear hW3 HS3
  refine (show5_any _ ⟨[], []⟩ Ai Al 0 ci 0 cl S3.out.bp.la S3.out.bp.pa).mono ?_
  rintro e W4 ⟨rfl, b4⟩
  rw [show showP ⟨[], []⟩ = ([], 50) from rfl]
  have S4 := Lib.hid (S3.out.next b4)
  have f0 := S4.out.f0
  have f1 := S4.out.f1
  have c1 := S4.out.bp.c1
  clear b4
  go_wp2
  go_ret
  exact ⟨rfl, S4.out.bp.bel⟩
set_option maxHeartbeats 3200000 in
theorem walk_long (s : ByteArray) (hs : s.size ≤ 140737488355320) (y : Int) (hy : 0 ≤ y ∧ y ≤ 255) (w : World) (hL : LaidP w) (p : Pg) (hx : parseR s.data.toList = .ok p) (hsh : showP p = ([], 30)) : Calls Tryd.prog 7 #[.string s, .int .u8 y] w (fun e w' => e = .returned (.bool true) ∧ Below w.heap.size w w') := by
  have HX := Lib.hid hx
  have HSH := Lib.hid hsh
  have hz0 : (bs []).size = 0 := rfl
  clear hx hsh
  go_enter Tryd.func7, Tryd.ntmps7
  go_wp2_with fail
  refine (parse_is ⟨#[111, 117, 116, 32, 49, 43, 50]⟩ _ pgT 0 1 readT rfl rfl hL (by decide)).mono ?_
  rintro e W1 ⟨Ai1, ci1, Al1, cl1, rfl, _, b1, _, _⟩
  have hu := two_up2 b1 (pfw_bel W1 Ai1 0 ci1 Al1 1 cl1 0 0)
  obtain ⟨V1, hV1⟩ : ∃ V, V = pfW W1 Ai1 0 ci1 Al1 1 cl1 0 0 := ⟨_, rfl⟩
  have hE1 : (W1.alloc (.cells #[.slice Ai1 0 ci1, .slice Al1 1 cl1] 25)).alloc (.cells #[.int .i64 0, .int .i64 0] 32) = V1 := hV1.symm
  have x1 : V1.heap[W1.heap.size]? = some (.cells #[.slice Ai1 0 ci1, .slice Al1 1 cl1] 25 (0, 0)) := by rw [← hE1]; exact box1 W1 _ _
  have x2 : V1.heap[W1.heap.size + 1]? = some (.cells #[.int .i64 0, .int .i64 0] 32 (0, 0)) := by rw [← hE1]; exact box2 W1 _ _
  rw [← hV1] at hu
  have X1 := Lib.hid (show BX w W1.heap.size V1 from ⟨⟨_, _, x1⟩, ⟨_, _, x2⟩, hu, hL.below hu, b1.size⟩)
  have HE1 := Lib.hid hE1
  obtain ⟨k, hk⟩ : ∃ k, k = W1.heap.size := ⟨_, rfl⟩
  rw [← hk] at X1
  have HK := Lib.hid hk
  have HL := Lib.hid hL
  have hf0 := fun w => fne0 w
  clear x1 x2 hu hE1 hV1 b1 hk hL
  go_wp2_with fail
  rw [HE1.out, ← HK.out]
  refine (parse_own s _ p _ _ HX.out rfl rfl X1.out.la (by omega)).mono ?_
  rintro e W2 ⟨xs, ls, Ai, ci, Al, cl, rfl, hpg, hpv, b2, h1, h2⟩
  have X2 := X1.out.next b2
  obtain ⟨z1, z2, z3, z4, ⟨_, _, z5, z6⟩, ⟨_, _, z7, z8⟩⟩ := X2.frz
  have S3 := Lib.hid (SB.read X2 HL.out HX.out rfl rfl hpg hpv h1 h2)
  have HS3 := Lib.hid (show (((W2.setCell ⟨k, 0, none⟩ (.slice Ai p.ins.length ci)).setCell ⟨k, 1, none⟩ (.slice Al p.lns.length cl)).setCell ⟨k + 1, 0, none⟩ (.int .i64 0)).setCell ⟨k + 1, 1, none⟩ (.int .i64 0) = st4 W2 k (.slice Ai p.ins.length ci) (.slice Al p.lns.length cl) (.int .i64 0) (.int .i64 0) from rfl)
  clear b2
  go_wp2_with fail
  rw [HS3.out]
  clear z1 z2 z3 z4 z5 z6 z7 z8 X2
  obtain ⟨W3, hW3⟩ : ∃ W, W = st4 W2 k (.slice Ai p.ins.length ci) (.slice Al p.lns.length cl) (.int .i64 0) (.int .i64 0) := ⟨_, rfl⟩
  rw [← hW3] at S3 ⊢
  clear hW3 HS3
  clear hpg hpv
  refine (show5_any _ p Ai Al _ ci _ cl S3.out.bp.la S3.out.bp.pa).mono ?_
  rintro e W4 ⟨rfl, b4⟩
  rw [HSH.out]
  have S4 := Lib.hid (S3.out.next b4)
  have f0 := S4.out.f0
  have f1 := S4.out.f1
  clear b4
  go_wp2
  go_ret
  exact ⟨rfl, S4.out.bp.bel⟩
set_option maxHeartbeats 3200000 in
theorem walk_ok (s : ByteArray) (hs : s.size ≤ 140737488355320) (y : Int) (hy : 0 ≤ y ∧ y ≤ 255) (w : World) (hL : LaidP w) (p : Pg) (hx : parseR s.data.toList = .ok p) (u : List UInt8) (hl : u.length ≤ 65536) (hsh : showP p = (u, 0)) (q : Pg) (hq : parseR u = .ok q) (hz : zP q = zP p) (l : List Tk) (n : Nat) (hn : l.length = n) (hlx : lexR u = .ok l) (hn6 : n ≤ 65536) (hsp : ∀ t ∈ l, Sp t ∧ t.w.length ≤ 16 ∧ rng t.n) : Calls Tryd.prog 7 #[.string s, .int .u8 y] w (fun e w' => e = .returned (.bool true) ∧ Below w.heap.size w w') := by
  have HX := Lib.hid hx
  have HSH := Lib.hid hsh
  have HQ := Lib.hid (And.intro hq hz)
  have HLX := Lib.hid (And.intro hlx hn)
  have hsz : (bs u).size ≤ 65536 := by rw [bs_size]; exact hl
  obtain ⟨B, hB⟩ : ∃ B : Nat, (B : Int) = y.tmod 4 := ⟨(y.tmod 4).toNat, by have := Int.tmod_nonneg 4 hy.1; omega⟩
  have hB3 : B ≤ 3 := by have := Int.tmod_lt_of_pos y (show (0 : Int) < 4 by decide); omega
  have HBB := Lib.hid hB
  clear hx hsh hq hz hlx hl hn hB
  go_enter Tryd.func7, Tryd.ntmps7
  go_wp2_with fail
  refine (parse_is ⟨#[111, 117, 116, 32, 49, 43, 50]⟩ _ pgT 0 1 readT rfl rfl hL (by decide)).mono ?_
  rintro e W1 ⟨Ai1, ci1, Al1, cl1, rfl, _, b1, _, _⟩
  have hu := two_up2 b1 (pfw_bel W1 Ai1 0 ci1 Al1 1 cl1 0 0)
  obtain ⟨V1, hV1⟩ : ∃ V, V = pfW W1 Ai1 0 ci1 Al1 1 cl1 0 0 := ⟨_, rfl⟩
  have hE1 : (W1.alloc (.cells #[.slice Ai1 0 ci1, .slice Al1 1 cl1] 25)).alloc (.cells #[.int .i64 0, .int .i64 0] 32) = V1 := hV1.symm
  have x1 : V1.heap[W1.heap.size]? = some (.cells #[.slice Ai1 0 ci1, .slice Al1 1 cl1] 25 (0, 0)) := by rw [← hE1]; exact box1 W1 _ _
  have x2 : V1.heap[W1.heap.size + 1]? = some (.cells #[.int .i64 0, .int .i64 0] 32 (0, 0)) := by rw [← hE1]; exact box2 W1 _ _
  rw [← hV1] at hu
  have X1 := Lib.hid (show BX w W1.heap.size V1 from ⟨⟨_, _, x1⟩, ⟨_, _, x2⟩, hu, hL.below hu, b1.size⟩)
  have HE1 := Lib.hid hE1
  obtain ⟨k, hk⟩ : ∃ k, k = W1.heap.size := ⟨_, rfl⟩
  rw [← hk] at X1
  have HK := Lib.hid hk
  have HL := Lib.hid hL
  have hf0 := fun w => fne0 w
  clear x1 x2 hu hE1 hV1 b1 hk hL
  go_wp2_with fail
  rw [HE1.out, ← HK.out]
  refine (parse_own s _ p _ _ HX.out rfl rfl X1.out.la (by omega)).mono ?_
  rintro e W2 ⟨xs, ls, Ai, ci, Al, cl, rfl, hpg, hpv, b2, h1, h2⟩
  have X2 := X1.out.next b2
  obtain ⟨z1, z2, z3, z4, ⟨_, _, z5, z6⟩, ⟨_, _, z7, z8⟩⟩ := X2.frz
  have S3 := Lib.hid (SB.read X2 HL.out HX.out rfl rfl hpg hpv h1 h2)
  have HS3 := Lib.hid (show (((W2.setCell ⟨k, 0, none⟩ (.slice Ai p.ins.length ci)).setCell ⟨k, 1, none⟩ (.slice Al p.lns.length cl)).setCell ⟨k + 1, 0, none⟩ (.int .i64 0)).setCell ⟨k + 1, 1, none⟩ (.int .i64 0) = st4 W2 k (.slice Ai p.ins.length ci) (.slice Al p.lns.length cl) (.int .i64 0) (.int .i64 0) from rfl)
  clear b2
  go_wp2_with fail
  rw [HS3.out]
  clear z1 z2 z3 z4 z5 z6 z7 z8 X2
  obtain ⟨W3, hW3⟩ : ∃ W, W = st4 W2 k (.slice Ai p.ins.length ci) (.slice Al p.lns.length cl) (.int .i64 0) (.int .i64 0) := ⟨_, rfl⟩
  rw [← hW3] at S3 ⊢
  clear hW3 HS3
  clear hpg hpv
  refine (show5_any _ p Ai Al _ ci _ cl S3.out.bp.la S3.out.bp.pa).mono ?_
  rintro e W4 ⟨rfl, b4⟩
  rw [HSH.out]
  have S4 := Lib.hid (S3.out.next b4)
  have f0 := S4.out.f0
  have f1 := S4.out.f1
  clear b4
  go_wp2_with fail
  refine (lex_at (bs u) _ (.ok l) (by rw [bs_list]; exact HLX.out.1) S4.out.bp.la.1 (by omega)).mono ?_
  rintro e W5 ⟨A5, c5, rfl, o5, b5⟩
  rw [show (Rs.ok l).toks = l from rfl] at o5 ⊢
  rw [show (Rs.ok l).fa = 0 from rfl, show (Rs.ok l).fe = 0 from rfl]
  rw [HLX.out.2] at o5 ⊢
  obtain ⟨V, hV⟩ : ∃ V, V = W5.alloc (.cells #[.int .i64 0, .int .i64 0] 32) := ⟨_, rfl⟩
  have hbV : Below W5.heap.size W5 V := by rw [hV]; exact alloc_bel _ _
  have kV : V.heap[W5.heap.size]? = some (.cells #[.int .i64 0, .int .i64 0] 32 (0, 0)) := by rw [hV]; exact heap_alloc_new _ _
  have g0 : V.cell? ⟨W5.heap.size, 0, none⟩ = some (.int .i64 0) := by rw [cell_of_row _ _ _ _ _ _ kV]; rfl
  have g1 : V.cell? ⟨W5.heap.size, 1, none⟩ = some (.int .i64 0) := by rw [cell_of_row _ _ _ _ _ _ kV]; rfl
  have SV := Lib.hid ((S4.out.next b5).next hbV)
  have RV := Lib.hid ((Own.below o5 hbV).rd)
  have HV := Lib.hid hV
  clear o5 b5 hbV kV hV f0 f1
  go_wp2_with fail
  rw [← HV.out]
  have HS := Lib.hid hsp
  clear hsp
  go_loopw [67, 11] (fun i s11 wr => ∃ (j : Nat) (U : List UInt8) (us : List Tk), j ≤ n ∧ i = .int .i64 j ∧ s11 = .string (bs U) ∧ U.length ≤ 25 * j ∧ Hid (SpJ U us ∧ us.map zT = (l.take j).map zT) ∧ Hid (Below V.heap.size V wr)) (fun i _ _ => n - (intOf i).toNat)
  case atStart => exact ⟨0, [], [], by omega, rfl, rfl, by simp, Lib.hid ⟨SpJ.nil, rfl⟩, Lib.hid (Below.refl _ _)⟩
  case round =>
    obtain ⟨j, U, us, hj, rfl, rfl, hU, HJ, HB⟩ := hrel
    by_cases hlt : j < n
    · obtain ⟨t, ht⟩ : ∃ t, t = nth l j := ⟨_, rfl⟩
      have hjl : j < l.length := by rw [HLX.out.2]; exact hlt
      obtain ⟨b, o, rfl, hb, hc⟩ := RV.out.at_ j hjl
      have HC0 := Lib.hid (hc j hjl)
      obtain ⟨d0, d1, d2, d3⟩ := HC0.out.below HB.out hb
      rw [← ht] at d0 d1 d2 d3
      have HT := Lib.hid (HS.out t (by rw [ht]; exact nth_mem hjl))
      have HHT := Lib.hid ht
      have q1 := idxTk b o n c5 j hlt
      have HLW := Lib.hid (SV.out.bp.la.below HB.out)
      have hszb := HB.out.size
      have HBV := Lib.hid hb
      clear hc ht hjl hb
      go_wp2_with fail
      refine (spell_any t _ HLW.out.1 ⟨HT.out.2.2, Nat.le_trans HT.out.2.1 (by decide)⟩).mono ?_
      unfold SpRes
      rintro e W6 ⟨rfl, b6⟩
      rw [sp_yes HT.out.1]
      have hz1 : (bs U).size = U.length := bs_size _
      have hz2 : (bs (txt t)).size = (txt t).length := bs_size _
      have hz3 := txt_le HT.out.2.1 HT.out.2.2
      have hcat := cat_bs U (txt t)
      have HB6 := Lib.hid (HB.out.trans (b6.mono HB.out.size))
      clear b6 d0 d1 d2 d3 q1
      go_wp2
      go_loopw [15, 11] (fun s15 s11 wx => ∃ (c : Nat) (U' : List UInt8) (us' : List Tk), c ≤ B + 1 ∧ s15 = .int .u8 c ∧ s11 = .string (bs U') ∧ U'.length ≤ 25 * j + 21 + c ∧ Hid ((c = 0 → U' = U ++ txt t) ∧ (c ≠ 0 → SpJ U' us' ∧ us'.map zT = (l.take (j + 1)).map zT)) ∧ Hid (Below V.heap.size V wx)) (fun s15 _ _ => 4 - (intOf s15).toNat)
      case atStart => exact ⟨0, U ++ txt t, us, by omega, rfl, rfl, by rw [List.length_append]; omega, Lib.hid ⟨fun _ => rfl, fun h => (h rfl).elim⟩, Lib.hid HB6.out⟩
      case round =>
        obtain ⟨c, U', us', hcB, rfl, rfl, hU', HJ', HB'⟩ := hrel
        have hz1' : (bs U').size = U'.length := bs_size _
        have hb32 : bs U' ++ ⟨#[32]⟩ = bs (U' ++ [32]) := cat_bs U' [32]
        have hsz' := HB'.out.size
        by_cases hcl : c ≤ B
        · have hB4 : y % 4 = (B : Int) := by rw [HBB.out, Int.tmod_eq_emod_of_nonneg hy.1]
          have HJ2 := Lib.hid (step_blank HJ.out HT.out.1 HHT.out HLX.out.2 hlt HJ'.out)
          clear HJ'
          go_wp2
          go_roundw
          case rel =>
            obtain ⟨us2, h2⟩ := HJ2.out
            exact ⟨c + 1, U' ++ [32], us2, by omega, by go_num, rfl, by rw [List.length_append, List.length_singleton]; omega, Lib.hid ⟨fun h => absurd h (Nat.succ_ne_zero c), fun _ => h2⟩, HB'⟩
          case measure => simp [intOf]; omega
        · have hB4 : y % 4 = (B : Int) := by rw [HBB.out, Int.tmod_eq_emod_of_nonneg hy.1]
          have HJ2 := Lib.hid (HJ'.out.2 (by omega))
          go_wp2
          go_roundw
          case rel => exact ⟨j + 1, U', us', by omega, by go_num, rfl, by omega, HJ2, HB'⟩
          case measure => simp [intOf]; omega
    · obtain rfl : j = n := by omega
      have hz1 : (bs U).size = U.length := bs_size _
      have hall := HJ.out.2
      rw [List.take_of_length_le (by have := HLX.out.2; omega)] at hall
      have HALL := Lib.hid hall
      clear hall
      by_cases hbig : 65536 < U.length
      · go_wp2
        go_ret
        exact ⟨rfl, SV.out.bp.bel.trans (HB.out.mono (by have := SV.out.bp.bel.size; omega))⟩
      · obtain ⟨q2, hq2, hzq⟩ := same_read HLX.out.1 (HJ.out.1.read (by omega)) HALL.out.symm HQ.out.1
        have HQ2 := Lib.hid (And.intro hq2 (hzq.trans HQ.out.2))
        clear hq2 hzq
        have S5 := Lib.hid (SV.out.next HB.out)
        have hg := fun w => feq0 w
        go_wp2_with fail
        refine (parse_is (bs U) _ q2 _ _ (by rw [bs_list]; exact HQ2.out.1) rfl rfl S5.out.bp.la (by omega)).mono ?_
        rintro e W7 ⟨AQ, cQ, EQ, dQ, rfl, hr, b4, hci, hck⟩
        have hu := two_up2 b4 (pfw_bel W7 AQ q2.ins.length cQ EQ q2.lns.length dQ 0 0)
        have Q4 := Lib.hid (BP.read (w0 := w) HQ2.out.1 rfl rfl hr hci hck (two_up2 S5.out.bp.bel b4) (S5.out.bp.la.below b4))
        have P4 := Lib.hid (S5.out.bp.next hu)
        obtain ⟨f0, f1, f2, f3, f4⟩ := PFAt.new W7 AQ q2.ins.length cQ EQ q2.lns.length dQ 0 0
        have hW4 := Lib.hid (show pfW W7 AQ q2.ins.length cQ EQ q2.lns.length dQ 0 0 = (W7.alloc (.cells #[.slice AQ q2.ins.length cQ, .slice EQ q2.lns.length dQ] 25)).alloc (.cells #[.int .i64 0, .int .i64 0] 32) from rfl)
        have k0 := P4.out.c0
        have k1 := P4.out.c1
        rw [hW4.out] at f0 f1 f2 f3 k0 k1
        clear hu b4 hr f4
        have k2 := Q4.out.c0
        have k3 := Q4.out.c1
        rw [hW4.out] at k2 k3
        go_wp2_with fail
        rw [← hW4.out]
        refine (alike_pa P4.out.pa Q4.out.pa).mono ?_
        rintro e W8 ⟨rfl, b8⟩
        rw [decide_eq_true HQ2.out.2.symm]
        have P7 := Lib.hid (P4.out.next b8)
        clear b8 k0 k1 k2 k3 f0 f1 f2 f3
        go_wp2
        go_ret
        exact ⟨rfl, P7.out.bel⟩
theorem walk (s : ByteArray) (hs : s.size ≤ 140737488355320) (y : Int) (hy : 0 ≤ y ∧ y ≤ 255) (w : World) (hL : LaidP w) : Calls Tryd.prog 7 #[.string s, .int .u8 y] w (fun e w' => e = .returned (.bool true) ∧ Below w.heap.size w w') := by
  cases hx : parseR s.data.toList with
  | err a c => exact walk_err s hs y hy w hL a c hx
  | ok p =>
    have hr := pz_rng hx
    rcases read_show hx hr with ⟨u, h1, _, h2⟩ | ⟨u, q, h2, h3, h4, h5⟩
    · exact walk_long s hs y hy w hL p hx h2
    · have hl := (showP_ok h2).2
      cases hlx : lexR u with
      | err a c => rw [pz_bad hlx] at h3; cases h3
      | ok l =>
        have hle : lexL u 0 = .ok l := by unfold lexR at hlx; rwa [if_neg (by omega)] at hlx
        have hc := lex_count _ u 0 (Nat.le_refl _) l hle
        have hs2 := lex_sp _ u 0 (Nat.le_refl _) l hle
        exact walk_ok s hs y hy w hL p hx u hl h2 q h3 h4 l _ rfl hlx (by omega) (fun t ht => ⟨hs2 t ht, hc.2 t ht⟩)
end Go.Proofs.YtbapgdhcbfpdoaaDoor.topSpelled
