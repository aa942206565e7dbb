/- The walk of ParseLines. -/
import Derived.Deep.RegionHeld3
import Derived.Test.YthdognmppbckbaaDoorZPk
namespace Go.Proofs.YthdognmppbckbaaDoor.parseLines
open Go.RowKit
set_option linter.unusedVariables false

set_option maxRecDepth 100000 in
set_option maxHeartbeats 6400000 in
theorem walk (A0 : Option Addr) (L c0 : Nat) (S : Nat → ByteArray) (hL0 : L ≤ 9223372036854775807) (w : World) (hL : LaidP w) (hS : StrAt w A0 L S) : Calls Tryd.prog 9 #[.slice A0 L c0] w fun e w' => e = .returned (.bool true) ∧ Below w.heap.size w w' := by
  have HSS := Lib.hid hS
  clear hS
  go_enter Tryd.func9, Tryd.ntmps9
  go_wp2_with fail
  refine (shown4_any _ hL).mono ?_
  rintro e W1 ⟨rfl, b1⟩
  have B := Lib.hid b1
  have HST := Lib.hid (HSS.out.keep b1)
  have HL1 := Lib.hid (hL.below b1)
  clear b1 HSS
  go_wp2
  go_loopw [6, 5, 4] (fun i s5 s4 wr => ∃ (k : Nat) (A5 : Option Addr) (n c5 : Nat) (A4 : Option Addr) (m c4 : Nat) (Ws : List WE), k ≤ L ∧ n ≤ 60 ∧ i = .int .i64 k ∧ s5 = .slice A5 n c5 ∧ s4 = .slice A4 m c4 ∧ Hid (LI wr W1.heap.size Ws (textOf (Ws.map WE.pr)) A5 n c5 A4 m c4 ∧ Below W1.heap.size W1 wr)) (fun i _ _ _ => L - (intOf i).toNat)
  case atStart => exact ⟨0, none, 0, 0, none, 0, 0, [], by omega, by omega, rfl, rfl, rfl, LI.nil _ _, Below.refl _ _⟩
  case round =>
    obtain ⟨k, A5, n, c5, A4, m, c4, Ws, hk, hn60, rfl, rfl, rfl, HB⟩ := hrel
    by_cases hlt : k < L
    · by_cases h60 : n < 60
      · obtain ⟨a, rfl, haw, hcell⟩ := HST.out (by omega)
        obtain ⟨s, hs⟩ : ∃ s, s = S k := ⟨_, rfl⟩
        have hak := Lib.hid (hcell k hlt)
        rw [← hs] at hak
        have u1 := (HB.out.2.cell (p := a.add k) (by rw [add_block]; exact haw)).trans hak.out
        rw [← add_block a k] at haw
        have q1 := idxSt a L c0 k hlt
        clear hcell hs
        by_cases hp : plainS s 1000
        · have HP := Lib.hid hp
          have hz : s.size ≤ 140737488355000 := by have := hp.1; omega
          have hs1 := hp.1
          clear hp
          cases hx : parseR (out4 ++ s.data.toList) with
          | err x c =>
            have HX := Lib.hid hx
            have hc0 : c ≠ 0 := by have := (pz_err hx).2; omega
            have HC := Lib.hid hc0
            clear hx hc0
            go_wp2_with (first
              | (go_at_call 21; refine (plain_yes s 1000 _ HP.out (by decide)).mono ?_; rintro e W3 ⟨rfl, e3⟩; subst e3)
              | (go_at_call 22; refine (out_err s _ x c HX.out HC.out (HL1.out.below HB.out.2) hz).mono ?_; rintro e W4 ⟨rfl, b4⟩; have H4 := Lib.hid (HB.out.1.keep b4); have B4 := Lib.hid (up2 HB.out.2 b4); clear b4))
            clear u1 q1
            go_roundw
            case rel => exact ⟨k + 1, A5, n, c5, A4, m, c4, Ws, by omega, hn60, by go_num, rfl, rfl, H4.out, B4.out⟩
            case measure => simp [intOf]; omega
          | ok q =>
            obtain ⟨its, E, rfl, hE⟩ := out_ok HP.out.2 (by rw [len_s]; omega) hx
            have hbd := (pz_bd hx).its ⟨[], 0, its⟩ (by simp)
            have HX := Lib.hid hx
            obtain ⟨ni, hni⟩ : ∃ ni, ni = its.length := ⟨_, rfl⟩
            have HIN := Lib.hid hni.symm
            by_cases h120 : (120 : Int) < (ni : Int)
            · clear hx hE hbd hni
              go_wp2_with (first
                | (go_at_call 21; refine (plain_yes s 1000 _ HP.out (by decide)).mono ?_; rintro e W3 ⟨rfl, e3⟩; subst e3)
                | (go_at_call 22; refine (out_its s _ its ni HIN.out HX.out (HL1.out.below HB.out.2) hz).mono ?_; rintro e W4 ⟨A, c, rfl, _, _, b4⟩; have H4 := Lib.hid (HB.out.1.keep b4); have B4 := Lib.hid (up2 HB.out.2 b4); clear b4))
              clear u1 q1
              go_roundw
              case rel => exact ⟨k + 1, A5, n, c5, A4, m, c4, Ws, by omega, hn60, by go_num, rfl, rfl, H4.out, B4.out⟩
              case measure => simp [intOf]; omega
            · have HOK := Lib.hid (fun (W : World) (A : Option Addr) (c : Nat) (r : RdIt W A its) => (⟨r, by rw [len_s]; exact hs1, ⟨E, hE⟩, by show its.length ≤ 120; omega, fun y hy => ⟨Nat.le_trans (hbd.2.2 y hy).1 (by decide), (hbd.2.2 y hy).2⟩⟩ : WOk W (WE.mk s.data.toList its A c)))
              have hm6 := HB.out.1.small hn60
              clear hx hE hbd hni
              go_wp2_with (first
                  | (go_at_call 21; refine (plain_yes s 1000 _ HP.out (by decide)).mono ?_; rintro e W3 ⟨rfl, e3⟩; subst e3)
                  | (go_at_call 22; refine (out_its s _ its ni HIN.out HX.out (HL1.out.below HB.out.2) hz).mono ?_; rintro e W4 ⟨A, c, rfl, r4, _, b4⟩; have H4 := Lib.hid (HB.out.1.keep b4); have B4 := Lib.hid (up2 HB.out.2 b4); have R4 := Lib.hid r4; clear r4 b4)
                  | (at_builtin; refine append_want rfl (.tmp 45) (.tmp 47) rfl W1.heap.size Ws (textOf (Ws.map WE.pr)) A5 n c5 A4 m c4 rfl (H4.out.keep (up _)) W4.heap.size 1 rfl (WE.mk s.data.toList its A c) (HOK.out _ _ _ (rdIt_below R4.out (up _))) (fun j u hj => newsN _ _ rfl #[.slice A ni c] _ j u (by rw [← HIN.out]; exact hj)) (by omega) (by have := B4.out.size; simp; omega) ?_; intro A6 c6 w6 h6 g6; have H6 := Lib.hid h6; have hb6 := g6 W1 (B4.out.alloc B4.out.size _); have B6 := Lib.hid hb6; have u6 := (hb6.cell (p := a.add k) haw).trans hak.out; clear h6 g6 hb6)
                  | (at_builtin; refine append_strL rfl (.tmp 49) (.const (.string ⟨#[97, 32, 58, 32]⟩)) rfl W1.heap.size (Ws ++ [WE.mk s.data.toList its A c]) (textOf (Ws.map WE.pr)) A6 (n + 1) c6 A4 m c4 rfl H6.out ⟨#[97, 32, 58, 32]⟩ rfl (show m + 4 ≤ 1000000 by omega) B6.out.size ?_; intro A7 c7 w7 h7 g7; have H7 := Lib.hid h7; have hb7 := g7 W1 B6.out; have B7 := Lib.hid hb7; have u7 := (hb7.cell (p := a.add k) haw).trans hak.out; clear h7 g7 hb7)
                  | (at_builtin; refine append_strL rfl (.tmp 51) (.tmp 55) rfl W1.heap.size (Ws ++ [WE.mk s.data.toList its A c]) (textOf (Ws.map WE.pr) ++ [97, 32, 58, 32]) A6 (n + 1) c6 A7 (m + 4) c7 rfl H7.out s rfl (by omega) B7.out.size ?_; intro A8 c8 w8 h8 g8; have H8 := Lib.hid h8; have B8 := Lib.hid (g8 W1 B7.out); clear h8 g8)
                  | (at_builtin; refine append_byteL rfl (.tmp 57) (.tmp 58) rfl W1.heap.size (Ws ++ [WE.mk s.data.toList its A c]) (textOf (Ws.map WE.pr) ++ [97, 32, 58, 32] ++ s.data.toList) A6 (n + 1) c6 A8 (m + 4 + s.size) c8 rfl (H8.out.keep (up _)) 10 w8.heap.size 1 rfl (newsN _ _ rfl #[.int .u8 10] _) (by omega) (by have := B8.out.size; simp; omega) ?_; intro A9 c9 w9 h9 g9; have H9 := Lib.hid h9; have B9 := Lib.hid (g9 W1 (B8.out.alloc B8.out.size _)); clear h9 g9))
              clear u1 q1 u6 u7
              go_roundw
              case rel =>
                refine ⟨k + 1, A6, n + 1, c6, A9, m + 4 + s.size + 1, c9, Ws ++ [WE.mk s.data.toList its A c], by omega, by omega, by go_num, by first | rfl | simp, by first | rfl | simp, ?_, B9.out⟩
                rw [textOf_snoc]
                exact H9.out
              case measure => simp [intOf]; omega
        · go_wp2_with (go_at_call 21; refine (plain_no s 1000 _ hp (by decide)).mono ?_; rintro e W3 ⟨rfl, e3⟩; subst e3)
          clear u1 q1
          go_roundw
          case rel => exact ⟨k + 1, A5, n, c5, A4, m, c4, Ws, by omega, hn60, by go_num, rfl, rfl, HB.out⟩
          case measure => simp [intOf]; omega
      · skip
        have hm6 := HB.out.1.small hn60
        have HBL := Lib.hid (up2 B.out HB.out.2)
        have HLI := Lib.hid HB.out.1
        have HT := HB.out.1.text
        have HLL := Lib.hid (HB.out.1.lines hn60)
        obtain ⟨bl, hbl⟩ : ∃ bl, bl = textOf (Ws.map WE.pr) := ⟨_, rfl⟩
        rw [← hbl] at HT HLL HLI
        have hbm : bl.length = m := HLI.out.hm
        have hz : (lnS bl).size ≤ 140737488355328 := by rw [← len_s, lnS_list, List.length_append, hbm]; show m + 5 ≤ _; omega
        have HZ := Lib.hid hz
        have hzb : (bs bl).size ≤ 60300 := by rw [bs_size, hbm]; exact hm6
        clear hbl hm6 HB HST hbm hz
        rcases HLL.out with ⟨x, hx⟩ | ⟨q, hq, hl, hi⟩
        · have HX := Lib.hid (show parseR (lnS bl).data.toList = .err x 45 by rw [lnS_list]; exact hx)
          clear hx
          go_wp2_with fail
          refine (parse_no (lnS bl) _ x 45 HX.out (hL.below HBL.out) HZ.out).mono ?_
          rintro e W2 ⟨Ai2, ci2, Al2, cl2, rfl, b2⟩
          have hu := up2 b2 (pfw_bel W2 Ai2 0 ci2 Al2 0 cl2 x 45)
          obtain ⟨f3, f4, f0, f1, f2⟩ := PFAt.new W2 Ai2 0 ci2 Al2 0 cl2 x 45
          have B3 := Lib.hid (up2 HBL.out hu)
          unfold pfW at f0 f1 f2 f3 f4
          clear hu b2 HT hzb
          go_wp2
          go_ret
          exact ⟨rfl, B3.out⟩
        · have HX := Lib.hid (show parseR (lnS bl).data.toList = .ok q by rw [lnS_list]; exact hq)
          obtain ⟨N, hN⟩ : ∃ N, N = q.ins.length := ⟨_, rfl⟩
          obtain ⟨M, hM⟩ : ∃ M, M = q.lns.length := ⟨_, rfl⟩
          have hMn : M = n + 1 := hM.trans hl
          have HMN := Lib.hid (And.intro hN.symm (And.intro hM.symm hi))
          have hme : ((M : Int) != (n : Int) + 1) = false := by rw [hMn]; simp
          have HMn := Lib.hid hMn
          clear hN hM hl hi hq hMn
          go_wp2_with fail
          refine (parse_is (lnS bl) _ q N M HX.out HMN.out.1 HMN.out.2.1 (hL.below HBL.out) HZ.out).mono ?_
          rintro e W2 ⟨Ai2, ci2, Al2, cl2, rfl, hr, b2, _, _⟩
          have hu := up2 b2 (pfw_bel W2 Ai2 N ci2 Al2 M cl2 0 0)
          obtain ⟨f3, f4, f0, f1, f2⟩ := PFAt.new W2 Ai2 N ci2 Al2 M cl2 0 0
          have B3 := Lib.hid (up2 HBL.out hu)
          have hr2 := hr.below (pfw_bel W2 Ai2 N ci2 Al2 M cl2 0 0)
          obtain ⟨g, rfl, hg, hln⟩ := hr2.lns (by rw [HMN.out.2.1]; have := HMn.out; omega)
          have HLN := Lib.hid (And.intro hg hln)
          have HLV := Lib.hid (HLI.out.keep hu)
          clear hu b2 hr hr2 hg hln HT HLI hzb
          obtain ⟨V, hV⟩ : ∃ V, V = pfW W2 Ai2 N ci2 (some ⟨g, 0, none⟩) M cl2 0 0 := ⟨_, rfl⟩
          have hE : (W2.alloc (.cells #[.slice Ai2 N ci2, .slice (some ⟨g, 0, none⟩) M cl2] 26)).alloc (.cells #[.int .i64 0, .int .i64 0] 29) = V := hV.symm
          rw [← hV] at B3 HLN HLV f0 f1 f2 f3 f4
          have F := Lib.hid (And.intro f4 f2)
          rw [hV] at f0 f1 f2 f3 f4
          unfold pfW at f0 f1 f2 f3 f4
          have HE := Lib.hid hE
          clear hV hE
          go_wp2
          clear f0 f1 f2 f3 f4 hme
          rw [HE.out]
          go_loopw [85] (fun i wr => ∃ j : Nat, j ≤ n ∧ i = .int .i64 j ∧ Hid (Below V.heap.size V wr)) (fun i _ => n - (intOf i).toNat)
          case atStart => exact ⟨0, by omega, rfl, Below.refl _ _⟩
          case round =>
            obtain ⟨j, hj, rfl, HB⟩ := hrel
            have lv0 : W2.heap.size < V.heap.size := by have := F.out.2; omega
            by_cases hjn : j < n
            · obtain ⟨x, hx⟩ : ∃ x, x = q.lns.getD j default := ⟨_, rfl⟩
              obtain ⟨y, hy⟩ : ∃ y, y = Ws.getD j default := ⟨_, rfl⟩
              obtain ⟨e1, e2⟩ := HMN.out.2.2 j hjn
              rw [← hx] at e1 e2
              rw [← hy] at e2
              have hjw : j < Ws.length := by rw [HLV.out.hn]; exact hjn
              have hyo := HLV.out.ws y (by rw [hy, List.getD_eq_getElem?_getD, List.getElem?_eq_getElem hjw]; exact List.getElem_mem hjw)
              obtain ⟨n2, hn2⟩ : ∃ n2, n2 = y.its.length := ⟨_, rfl⟩
              have hxl : x.its.length = n2 := by have := congrArg List.length e2; rw [hn2]; simpa using this
              obtain ⟨x0, _, A, c, x2, _, x3⟩ := HLN.out.2 j (by rw [HMN.out.2.1]; have := HMn.out; omega)
              rw [← hx] at x0 x2 x3
              rw [hxl] at x2
              rw [e1] at x0
              obtain ⟨g5, rfl, hg5, hw5⟩ := HLV.out.row (by omega)
              have y0 := hw5 j hjn
              rw [← hy] at y0
              unfold WE.cell at y0
              rw [← hn2] at y0
              have lg := HLN.out.1
              have HIT := Lib.hid (fun (W : World) (hb : Below V.heap.size V W) => items_eq A y.A x.its y.its n2 c y.c W hxl hn2.symm (rdIt_below x3 hb) (rdIt_below hyo.rd hb) e2 (by have := hyo.n; omega) (fun z hz => by
                have h1 := alike_parts e2
                obtain ⟨i, hi, rfl⟩ := List.getElem_of_mem hz
                have h2 := h1.2 i hi
                have hi2 : i < y.its.length := by rw [← h1.1]; exact hi
                rw [List.getD_eq_getElem?_getD, List.getD_eq_getElem?_getD, List.getElem?_eq_getElem hi, List.getElem?_eq_getElem hi2] at h2
                have h3 := hyo.sm _ (List.getElem_mem hi2)
                obtain ⟨_, _, k1, k2⟩ := h2
                exact ⟨by have := h3.1; rw [← show (y.its[i]).ns = (x.its[i]).ns from k2]; exact this, by have := h3.2; rw [← show (y.its[i]).nm = (x.its[i]).nm from k1]; exact this⟩))
              have KS : ∀ w' : World, Hid (Below V.heap.size V w') → w'.cell? ⟨W2.heap.size, 1, none⟩ = some (.slice (some ⟨g, 0, none⟩) M cl2) ∧ w'.cell? ⟨g, j * 3 + 2, none⟩ = some (.slice A n2 c) ∧ w'.cell? ⟨g, j * 3, none⟩ = some (.string ⟨#[97]⟩) ∧ w'.cell? ⟨g5, j, none⟩ = some (.slice y.A n2 y.c) ∧ Hid (Below V.heap.size V w') :=
                fun w' h => ⟨(cell_below h.out lv0 1).trans F.out.1, (cell_below h.out lg _).trans x2, (cell_below h.out lg _).trans x0, (cell_below h.out hg5 _).trans y0, h⟩
              have q1 := idxLn g M cl2 j (by have := HMn.out; omega)
              have q2 := idxWt g5 n c5 j hjn
              obtain ⟨f4, y2, y1, y3, _⟩ := KS _ HB
              clear x0 x2 x3 y0 hx hy e1 e2 hjw hyo hn2 hxl hw5 hg5 lg
              go_wp2
              go_region_held3 (fun w' => w'.cell? ⟨W2.heap.size, 1, none⟩ = some (.slice (some ⟨g, 0, none⟩) M cl2) ∧ w'.cell? ⟨g, j * 3 + 2, none⟩ = some (.slice A n2 c) ∧ w'.cell? ⟨g, j * 3, none⟩ = some (.string ⟨#[97]⟩) ∧ w'.cell? ⟨g5, j, none⟩ = some (.slice y.A n2 y.c) ∧ Hid (Below V.heap.size V w'))
                (first | (exact KS _ (by first | assumption | exact hidDrew (by assumption) _)) | go_keep)
                (first | (go_at_call 23; refine (HIT.out _ (Hid.out (by simp [*]))).mono ?_; rintro e w5 ⟨rfl, g5'⟩; have k5 : Hid (Below V.heap.size V w5) := hidTrans (by simp [*]) g5'; clear g5'))
              clear f4 y1 y2 y3 q1 q2 KS
              go_wp2
              go_roundw
              case rel => exact ⟨j + 1, by omega, by go_num, k5⟩
              case measure => simp [intOf]; omega
            · obtain rfl : j = n := by omega
              go_wp2
              go_ret
              exact ⟨rfl, B3.out.trans (HB.out.mono B3.out.size)⟩

    · skip
      have hm6 := HB.out.1.small hn60
      have HBL := Lib.hid (up2 B.out HB.out.2)
      have HLI := Lib.hid HB.out.1
      have HT := HB.out.1.text
      have HLL := Lib.hid (HB.out.1.lines hn60)
      obtain ⟨bl, hbl⟩ : ∃ bl, bl = textOf (Ws.map WE.pr) := ⟨_, rfl⟩
      rw [← hbl] at HT HLL HLI
      have hbm : bl.length = m := HLI.out.hm
      have hz : (lnS bl).size ≤ 140737488355328 := by rw [← len_s, lnS_list, List.length_append, hbm]; show m + 5 ≤ _; omega
      have HZ := Lib.hid hz
      have hzb : (bs bl).size ≤ 60300 := by rw [bs_size, hbm]; exact hm6
      clear hbl hm6 HB HST hbm hz
      rcases HLL.out with ⟨x, hx⟩ | ⟨q, hq, hl, hi⟩
      · have HX := Lib.hid (show parseR (lnS bl).data.toList = .err x 45 by rw [lnS_list]; exact hx)
        clear hx
        go_wp2_with fail
        refine (parse_no (lnS bl) _ x 45 HX.out (hL.below HBL.out) HZ.out).mono ?_
        rintro e W2 ⟨Ai2, ci2, Al2, cl2, rfl, b2⟩
        have hu := up2 b2 (pfw_bel W2 Ai2 0 ci2 Al2 0 cl2 x 45)
        obtain ⟨f3, f4, f0, f1, f2⟩ := PFAt.new W2 Ai2 0 ci2 Al2 0 cl2 x 45
        have B3 := Lib.hid (up2 HBL.out hu)
        unfold pfW at f0 f1 f2 f3 f4
        clear hu b2 HT hzb
        go_wp2
        go_ret
        exact ⟨rfl, B3.out⟩
      · have HX := Lib.hid (show parseR (lnS bl).data.toList = .ok q by rw [lnS_list]; exact hq)
        obtain ⟨N, hN⟩ : ∃ N, N = q.ins.length := ⟨_, rfl⟩
        obtain ⟨M, hM⟩ : ∃ M, M = q.lns.length := ⟨_, rfl⟩
        have hMn : M = n + 1 := hM.trans hl
        have HMN := Lib.hid (And.intro hN.symm (And.intro hM.symm hi))
        have hme : ((M : Int) != (n : Int) + 1) = false := by rw [hMn]; simp
        have HMn := Lib.hid hMn
        clear hN hM hl hi hq hMn
        go_wp2_with fail
        refine (parse_is (lnS bl) _ q N M HX.out HMN.out.1 HMN.out.2.1 (hL.below HBL.out) HZ.out).mono ?_
        rintro e W2 ⟨Ai2, ci2, Al2, cl2, rfl, hr, b2, _, _⟩
        have hu := up2 b2 (pfw_bel W2 Ai2 N ci2 Al2 M cl2 0 0)
        obtain ⟨f3, f4, f0, f1, f2⟩ := PFAt.new W2 Ai2 N ci2 Al2 M cl2 0 0
        have B3 := Lib.hid (up2 HBL.out hu)
        have hr2 := hr.below (pfw_bel W2 Ai2 N ci2 Al2 M cl2 0 0)
        obtain ⟨g, rfl, hg, hln⟩ := hr2.lns (by rw [HMN.out.2.1]; have := HMn.out; omega)
        have HLN := Lib.hid (And.intro hg hln)
        have HLV := Lib.hid (HLI.out.keep hu)
        clear hu b2 hr hr2 hg hln HT HLI hzb
        obtain ⟨V, hV⟩ : ∃ V, V = pfW W2 Ai2 N ci2 (some ⟨g, 0, none⟩) M cl2 0 0 := ⟨_, rfl⟩
        have hE : (W2.alloc (.cells #[.slice Ai2 N ci2, .slice (some ⟨g, 0, none⟩) M cl2] 26)).alloc (.cells #[.int .i64 0, .int .i64 0] 29) = V := hV.symm
        rw [← hV] at B3 HLN HLV f0 f1 f2 f3 f4
        have F := Lib.hid (And.intro f4 f2)
        rw [hV] at f0 f1 f2 f3 f4
        unfold pfW at f0 f1 f2 f3 f4
        have HE := Lib.hid hE
        clear hV hE
        go_wp2
        clear f0 f1 f2 f3 f4 hme
        rw [HE.out]
        go_loopw [85] (fun i wr => ∃ j : Nat, j ≤ n ∧ i = .int .i64 j ∧ Hid (Below V.heap.size V wr)) (fun i _ => n - (intOf i).toNat)
        case atStart => exact ⟨0, by omega, rfl, Below.refl _ _⟩
        case round =>
          obtain ⟨j, hj, rfl, HB⟩ := hrel
          have lv0 : W2.heap.size < V.heap.size := by have := F.out.2; omega
          by_cases hjn : j < n
          · obtain ⟨x, hx⟩ : ∃ x, x = q.lns.getD j default := ⟨_, rfl⟩
            obtain ⟨y, hy⟩ : ∃ y, y = Ws.getD j default := ⟨_, rfl⟩
            obtain ⟨e1, e2⟩ := HMN.out.2.2 j hjn
            rw [← hx] at e1 e2
            rw [← hy] at e2
            have hjw : j < Ws.length := by rw [HLV.out.hn]; exact hjn
            have hyo := HLV.out.ws y (by rw [hy, List.getD_eq_getElem?_getD, List.getElem?_eq_getElem hjw]; exact List.getElem_mem hjw)
            obtain ⟨n2, hn2⟩ : ∃ n2, n2 = y.its.length := ⟨_, rfl⟩
            have hxl : x.its.length = n2 := by have := congrArg List.length e2; rw [hn2]; simpa using this
            obtain ⟨x0, _, A, c, x2, _, x3⟩ := HLN.out.2 j (by rw [HMN.out.2.1]; have := HMn.out; omega)
            rw [← hx] at x0 x2 x3
            rw [hxl] at x2
            rw [e1] at x0
            obtain ⟨g5, rfl, hg5, hw5⟩ := HLV.out.row (by omega)
            have y0 := hw5 j hjn
            rw [← hy] at y0
            unfold WE.cell at y0
            rw [← hn2] at y0
            have lg := HLN.out.1
            have HIT := Lib.hid (fun (W : World) (hb : Below V.heap.size V W) => items_eq A y.A x.its y.its n2 c y.c W hxl hn2.symm (rdIt_below x3 hb) (rdIt_below hyo.rd hb) e2 (by have := hyo.n; omega) (fun z hz => by
              have h1 := alike_parts e2
              obtain ⟨i, hi, rfl⟩ := List.getElem_of_mem hz
              have h2 := h1.2 i hi
              have hi2 : i < y.its.length := by rw [← h1.1]; exact hi
              rw [List.getD_eq_getElem?_getD, List.getD_eq_getElem?_getD, List.getElem?_eq_getElem hi, List.getElem?_eq_getElem hi2] at h2
              have h3 := hyo.sm _ (List.getElem_mem hi2)
              obtain ⟨_, _, k1, k2⟩ := h2
              exact ⟨by have := h3.1; rw [← show (y.its[i]).ns = (x.its[i]).ns from k2]; exact this, by have := h3.2; rw [← show (y.its[i]).nm = (x.its[i]).nm from k1]; exact this⟩))
            have KS : ∀ w' : World, Hid (Below V.heap.size V w') → w'.cell? ⟨W2.heap.size, 1, none⟩ = some (.slice (some ⟨g, 0, none⟩) M cl2) ∧ w'.cell? ⟨g, j * 3 + 2, none⟩ = some (.slice A n2 c) ∧ w'.cell? ⟨g, j * 3, none⟩ = some (.string ⟨#[97]⟩) ∧ w'.cell? ⟨g5, j, none⟩ = some (.slice y.A n2 y.c) ∧ Hid (Below V.heap.size V w') :=
              fun w' h => ⟨(cell_below h.out lv0 1).trans F.out.1, (cell_below h.out lg _).trans x2, (cell_below h.out lg _).trans x0, (cell_below h.out hg5 _).trans y0, h⟩
            have q1 := idxLn g M cl2 j (by have := HMn.out; omega)
            have q2 := idxWt g5 n c5 j hjn
            obtain ⟨f4, y2, y1, y3, _⟩ := KS _ HB
            clear x0 x2 x3 y0 hx hy e1 e2 hjw hyo hn2 hxl hw5 hg5 lg
            go_wp2
            go_region_held3 (fun w' => w'.cell? ⟨W2.heap.size, 1, none⟩ = some (.slice (some ⟨g, 0, none⟩) M cl2) ∧ w'.cell? ⟨g, j * 3 + 2, none⟩ = some (.slice A n2 c) ∧ w'.cell? ⟨g, j * 3, none⟩ = some (.string ⟨#[97]⟩) ∧ w'.cell? ⟨g5, j, none⟩ = some (.slice y.A n2 y.c) ∧ Hid (Below V.heap.size V w'))
              (first | (exact KS _ (by first | assumption | exact hidDrew (by assumption) _)) | go_keep)
              (first | (go_at_call 23; refine (HIT.out _ (Hid.out (by simp [*]))).mono ?_; rintro e w5 ⟨rfl, g5'⟩; have k5 : Hid (Below V.heap.size V w5) := hidTrans (by simp [*]) g5'; clear g5'))
            clear f4 y1 y2 y3 q1 q2 KS
            go_wp2
            go_roundw
            case rel => exact ⟨j + 1, by omega, by go_num, k5⟩
            case measure => simp [intOf]; omega
          · obtain rfl : j = n := by omega
            go_wp2
            go_ret
            exact ⟨rfl, B3.out.trans (HB.out.mono B3.out.size)⟩

end Go.Proofs.YthdognmppbckbaaDoor.parseLines
