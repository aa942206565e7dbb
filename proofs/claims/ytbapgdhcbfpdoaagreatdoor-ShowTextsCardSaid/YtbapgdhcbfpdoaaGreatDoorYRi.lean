/- Layer 4, put together: ShrL, ShrM. -/
import Derived.Test.YtbapgdhcbfpdoaaGreatDoorYRg
/- The document's texts of programs. -/
namespace Go.Proofs.YtbapgdhcbfpdoaaGreatDoor
open Go.RowKit
set_option linter.unusedVariables false
set_option linter.unusedSimpArgs false
set_option maxRecDepth 100000
set_option maxHeartbeats 1600000 in
theorem txt5_ins (w : World) (Ai Al : Option Addr) (n ci m cl : Nat) (h : 64 < n) (hs2 : n + m ≤ 4611686018427387904) : Calls Tryz.prog 15 #[pgV Ai n ci Al m cl] w (TxLn w none) := by
  go_enter Tryz.func15, Tryz.ntmps15
  go_wp2
  exact bodyPost_ret (v := .tuple #[.string ⟨#[]⟩, .bool false]) (R := TxLn w none) (by simp [results, Tryz.results15, go_sem]) rfl ⟨⟨_, rfl⟩, (Below.refl _ _).alloc (Nat.le_refl _) _⟩
set_option maxHeartbeats 1600000 in
theorem txt5_lns (w : World) (Ai Al : Option Addr) (n ci m cl : Nat) (hn : n ≤ 64) (h : 64 < m) (hs2 : n + m ≤ 4611686018427387904) : Calls Tryz.prog 15 #[pgV Ai n ci Al m cl] w (TxLn w none) := by
  go_enter Tryz.func15, Tryz.ntmps15
  go_wp2
  exact bodyPost_ret (v := .tuple #[.string ⟨#[]⟩, .bool false]) (R := TxLn w none) (by simp [results, Tryz.results15, go_sem]) rfl ⟨⟨_, rfl⟩, (Below.refl _ _).alloc (Nat.le_refl _) _⟩
set_option maxHeartbeats 1600000 in
theorem txt5_both (w : World) (Ai Al : Option Addr) (n ci m cl : Nat) (hn : n ≤ 64) (hm : m ≤ 64) (h : 64 < n + m) : Calls Tryz.prog 15 #[pgV Ai n ci Al m cl] w (TxLn w none) := by
  have hwr : wrap64 ((n : Int) + (m : Int)) = (n : Int) + (m : Int) := by unfold wrap64; omega
  go_enter Tryz.func15, Tryz.ntmps15
  go_wp2
  exact bodyPost_ret (v := .tuple #[.string ⟨#[]⟩, .bool false]) (R := TxLn w none) (by simp [results, Tryz.results15, go_sem]) rfl ⟨⟨_, rfl⟩, (Below.refl _ _).alloc (Nat.le_refl _) _⟩
set_option maxHeartbeats 1600000 in
theorem txt5_no (w : World) (Ai Al : Option Addr) (n ci cl : Nat) (hn : n ≤ 64) : Calls Tryz.prog 15 #[pgV Ai n ci Al 0 cl] w (TxLn w none) := by
  go_enter Tryz.func15, Tryz.ntmps15
  go_wp2
  exact bodyPost_ret (v := .tuple #[.string ⟨#[]⟩, .bool false]) (R := TxLn w none) (by simp [results, Tryz.results15, go_sem]) rfl ⟨⟨_, rfl⟩, (Below.refl _ _).alloc (Nat.le_refl _) _⟩
set_option maxHeartbeats 6400000 in
theorem txt5_ok (w : World) (p : Pg) (Ai Al : Option Addr) (n ci m cl : Nat) (hn : p.ins.length = n) (hm : p.lns.length = m) (h : PU w Ai Al p) (hb : PgB p) (hm0 : 0 < m) (hs : n + m ≤ 64) :
    Calls Tryz.prog 15 #[pgV Ai n ci Al m cl] w (TxLn w ((insP p.ins).bind fun t => (lnsP p.lns).map fun u => t ++ u)) := by
  have hwr : wrap64 ((n : Int) + (m : Int)) = (n : Int) + (m : Int) := by unfold wrap64; omega
  have t01 : decide ((64 : Int) < (n : Int)) = false := decide_eq_false (by omega)
  have t02 : decide ((64 : Int) < (m : Int)) = false := decide_eq_false (by omega)
  have t03 : decide ((64 : Int) < (n : Int) + (m : Int)) = false := decide_eq_false (by omega)
  have t04 : ((m : Int) == 0) = false := beq0 (by omega)
  have hn64 : n ≤ 64 := by omega
  have hm64 : m ≤ 64 := by omega
  obtain ⟨T, hT⟩ : ∃ T, T = (insP p.ins).bind fun t => (lnsP p.lns).map fun u => t ++ u := ⟨_, rfl⟩
  rw [← hT]
  have HT := Lib.hid hT
  have HP := Lib.hid h
  have HB := Lib.hid (And.intro hn (And.intro hm hb))
  obtain ⟨V, hV⟩ : ∃ V, V = w.alloc (pgC Ai n ci Al m cl) := ⟨_, rfl⟩
  have hBV : Below w.heap.size w V := by rw [hV]; exact (Below.refl _ _).alloc (Nat.le_refl _) _
  have kV : V.heap[w.heap.size]? = some (pgC Ai n ci Al m cl) := by rw [hV]; exact heap_alloc_new w _
  have y0 : V.cell? ⟨w.heap.size, 0, none⟩ = some (.slice Ai n ci) := by rw [cell_of_row _ _ _ _ _ _ kV]; rfl
  have y1 : V.cell? ⟨w.heap.size, 1, none⟩ = some (.slice Al m cl) := by rw [cell_of_row _ _ _ _ _ _ kV]; rfl
  have hwl : w.heap.size < V.heap.size := heap_lt kV
  have HY := Lib.hid (And.intro y0 y1)
  have HV := Lib.hid hV
  have BV := Lib.hid hBV
  clear hT h hn hm hb hV hBV kV y0 y1
  go_enter Tryz.func15, Tryz.ntmps15
  go_wp2_with fail
  rw [← HV.out]
  go_loopw [5, 4] (fun i s wr => ∃ (j : Nat) (acc : List UInt8), j ≤ n ∧ i = .int .i64 j ∧ s = .string (bs acc) ∧ acc.length ≤ 201 * j ∧ Hid (insP (p.ins.take j) = some acc ∧ Below V.heap.size V wr)) (fun i _ _ => n - (intOf i).toNat)
  case atStart => exact ⟨0, [], by omega, rfl, rfl, Nat.le_refl _, Lib.hid ⟨rfl, Below.refl _ _⟩⟩
  case round =>
    obtain ⟨j, acc, hj, rfl, rfl, hacc, HR⟩ := hrel
    have hbr := HR.out.2.size
    have hza : (bs acc).size = acc.length := bs_size _
    have y0 := (cell_below HR.out.2 hwl 0).trans HY.out.1
    have y1 := (cell_below HR.out.2 hwl 1).trans HY.out.2
    have HBR := Lib.hid (BV.out.trans (HR.out.2.mono BV.out.size))
    by_cases hlt : j < n
    · obtain ⟨x, hx⟩ : ∃ x, x = p.ins.getD j default := ⟨_, rfl⟩
      have hjl : j < p.ins.length := by rw [HB.out.1]; exact hlt
      have hxb : InB x := by
        rw [hx, List.getD_eq_getElem?_getD, List.getElem?_eq_getElem hjl]; exact HB.out.2.2.ins _ (List.getElem_mem hjl)
      obtain ⟨b, o, rfl, lb, hi⟩ := HP.out.ins (by omega)
      obtain ⟨a0, a1, A1, c1, a2, a3, a4⟩ := hi j hjl
      rw [← hx] at a0 a1 a2 a3 a4
      have u0 : wr.cell? ⟨b, o + j * 3, none⟩ = some (.string (bs x.nm)) := (cell_below HBR.out lb _).trans a0
      have u1 : wr.cell? ⟨b, o + j * 3 + 1, none⟩ = some (.int .i64 x.pl) := (cell_below HBR.out lb _).trans a1
      have u2 : wr.cell? ⟨b, o + j * 3 + 2, none⟩ = some (.slice A1 x.sd.length c1) := (cell_below HBR.out lb _).trans a2
      have q1 := idxIn0 b o n ci j hlt
      have HXX := Lib.hid (And.intro hx (And.intro hjl (And.intro hxb (a4.below HBR.out))))
      clear a0 a1 a2 a3 a4 hi hx hjl hxb
      go_wp2_with fail
      refine (input5_any wr x x.sd.length A1 c1 rfl HXX.out.2.2.2 HXX.out.2.2.1).mono ?_
      rintro e w2 ⟨rfl, b2⟩
      have B2 := Lib.hid (HR.out.2.trans (b2.mono hbr))
      clear b2
      cases hsp : inputP x with
      | none =>
        simp only [Option.getD_none, Option.isSome_none]
        have hno : T = none := by rw [HT.out, ins_stop HXX.out.2.1 (by rw [← HXX.out.1]; exact hsp)]; rfl
        have B3 := Lib.hid (BV.out.trans (B2.out.mono BV.out.size))
        subst hno
        clear hsp u0 u1 u2 q1 y0 y1
        go_wp2
        exact bodyPost_ret (v := .tuple #[.string ⟨#[]⟩, .bool false]) (R := TxLn w none) (by simp [results, Tryz.results15, go_sem]) rfl ⟨⟨_, rfl⟩, B3.out⟩
      | some s =>
        simp only [Option.getD_some, Option.isSome_some]
        have hsl := inputP_len hsp fun d hd => (HXX.out.2.2.1.sd d hd).2
        have hzs : (bs s).size = s.length := bs_size _
        have HN := Lib.hid (ins_go HXX.out.2.1 HR.out.1 (by rw [← HXX.out.1]; exact hsp))
        have HC := Lib.hid (show (bs acc ++ bs s) ++ ⟨#[10]⟩ = bs (acc ++ (s ++ [10])) by rw [show (⟨#[10]⟩ : ByteArray) = bs [10] from rfl, cat_bs, cat_bs, List.append_assoc])
        clear hsp u0 u1 u2 q1 y0 y1
        go_wp2
        go_roundw
        case rel => exact ⟨j + 1, acc ++ (s ++ [10]), by omega, by go_num, by rw [HC.out], by simp only [List.length_append, List.length_cons, List.length_nil]; omega, Lib.hid ⟨HN.out, B2.out⟩⟩
        case measure => simp [intOf]; omega
    · obtain rfl : j = n := by omega
      have hrun := HR.out.1
      rw [List.take_of_length_le (by rw [HB.out.1]; exact Nat.le_refl _)] at hrun
      have HA := Lib.hid hrun
      clear hrun
      go_wp2_with fail
      clear y0 y1
      go_loopw [8, 4] (fun i s wx => ∃ (k : Nat) (ac2 S : List UInt8), k < m ∧ i = .int .i64 k ∧ s = .string (bs S) ∧ S.length ≤ 201 * 64 + 6171 * k ∧ Hid (S = acc ++ ac2) ∧ Hid (lnsR p.lns k = some ac2 ∧ Below wr.heap.size wr wx)) (fun i _ _ => m - (intOf i).toNat)
      case atStart => exact ⟨0, [], acc, by omega, rfl, rfl, by omega, Lib.hid (List.append_nil _).symm, Lib.hid ⟨by unfold lnsR; rw [if_pos (by rw [HB.out.2.1]; omega)]; rfl, Below.refl _ _⟩⟩
      case round =>
        obtain ⟨k, ac2, S, hk, rfl, rfl, hac, HSS, HQ⟩ := hrel
        rename World => wl
        have hbl := HQ.out.2.size
        have HBW := Lib.hid (HBR.out.trans (HQ.out.2.mono HBR.out.size))
        have hzS : (bs S).size = S.length := bs_size _
        have y1 := (cell_below (HR.out.2.trans (HQ.out.2.mono hbr)) hwl 1).trans HY.out.2
        obtain ⟨x, hx⟩ : ∃ x, x = p.lns.getD k default := ⟨_, rfl⟩
        have hkl : k < p.lns.length := by rw [HB.out.2.1]; exact hk
        have hxb : LnB x := by
          rw [hx, List.getD_eq_getElem?_getD, List.getElem?_eq_getElem hkl]; exact HB.out.2.2.lns _ (List.getElem_mem hkl)
        obtain ⟨b, o, rfl, lb, hi⟩ := HP.out.lns (by omega)
        obtain ⟨a0, a1, A1, c1, a2, a3, a4⟩ := hi k hkl
        rw [← hx] at a0 a1 a2 a3 a4
        have u0 : wl.cell? ⟨b, o + k * 3, none⟩ = some (.string (bs x.nm)) := (cell_below HBW.out lb _).trans a0
        have u1 : wl.cell? ⟨b, o + k * 3 + 1, none⟩ = some (.int .i64 x.pl) := (cell_below HBW.out lb _).trans a1
        have u2 : wl.cell? ⟨b, o + k * 3 + 2, none⟩ = some (.slice A1 x.its.length c1) := (cell_below HBW.out lb _).trans a2
        have q1 := idxLn0 b o m cl k hk
        have HXX := Lib.hid (And.intro hx (And.intro hkl (And.intro hxb (a4.below HBW.out))))
        have hW9 : Below wl.heap.size wl (wl.alloc (.cells #[.string (bs x.nm), .int .i64 x.pl, .slice A1 x.its.length c1] 33)) := (Below.refl _ _).alloc (Nat.le_refl _) _
        have HW9 := Lib.hid hW9
        have hex := fun kk (hkk : kk ≤ 2) => expr5_any x.its kk x.its.length A1 c1 (wl.alloc (.cells #[.string (bs x.nm), .int .i64 x.pl, .slice A1 x.its.length c1] 33)) hkk rfl hxb.len ((a4.below HBW.out).below hW9) hxb.its
        have HEX := Lib.hid hex
        have hnl := hxb.nm
        have y1a := (cell_below HW9.out (Nat.lt_of_lt_of_le hwl (Nat.le_trans hbr hbl)) 1).trans y1
        have hzn : (bs x.nm).size = x.nm.length := bs_size _
        clear a0 a1 a2 a3 a4 hi hx hkl hxb hW9 hex
        by_cases hlast : k + 1 = m
        · have t1 : ((k : Int) == (m : Int) - 1) = true := by rw [beq_iff_eq]; omega
          have hl1 := HEX.out 1 (by decide)
          obtain ⟨a, ha⟩ : ∃ a, a = exprP x.its 1 := ⟨_, rfl⟩
          rw [← ha] at hl1
          have HL1 := Lib.hid hl1
          have HLN := Lib.hid (show lnP x true = if x.nm = [] then a.map fun t => [111, 117, 116, 32] ++ t else none by rw [ha]; rfl)
          have hal : ∀ t, a = some t → t.length ≤ 6144 := fun t ht => exprP_len (by rw [← ha]; exact ht) fun y hy => (HXX.out.2.2.1.its y hy).ns
          have HLS := Lib.hid hlast
          have HST := Lib.hid (fun (hno : lnP x true = none) => lns_stop HXX.out.2.1 (by rw [← HXX.out.1, HB.out.2.1, decide_eq_true hlast]; exact hno))
          have HGO := Lib.hid (fun (s : List UInt8) (hso : lnP x true = some s) => lns_go HXX.out.2.1 HQ.out.1 (by rw [← HXX.out.1, HB.out.2.1, decide_eq_true hlast]; exact hso))
          clear ha hl1
          go_wp2_with fail
          refine HL1.out.mono ?_
          rintro e w2 ⟨rfl, b2⟩
          have k9 : w2.heap[wl.heap.size]? = some (.cells #[.string (bs x.nm), .int .i64 x.pl, .slice A1 x.its.length c1] 33 (0, 0)) := (b2.block _ (by simp)).trans (heap_alloc_new wl _)
          have k90 := fun t => (show (w2.drewN t).cell? ⟨wl.heap.size, 0, none⟩ = some (.string (bs x.nm)) by rw [show (w2.drewN t).cell? ⟨wl.heap.size, 0, none⟩ = w2.cell? ⟨wl.heap.size, 0, none⟩ from rfl, cell_of_row _ _ _ _ _ _ k9]; rfl)
          have k91 : w2.cell? ⟨wl.heap.size, 0, none⟩ = some (.string (bs x.nm)) := k90 0
          have B2 := Lib.hid (HBW.out.trans ((HW9.out.trans (b2.mono HW9.out.size)).mono HBW.out.size))
          clear b2 u0 u1 u2 q1 k9 y1 y1a
          cases a with
          | none =>
            simp only [Option.getD_none, Option.isSome_none]
            have hz0 : (bs []).size = 0 := rfl
            have hno : T = none := by rw [HT.out, HA.out, HST.out (by rw [HLN.out]; split <;> rfl)]; rfl
            subst hno
            go_wp2
            go_quiet (fail)
            go_wp2
            refine bodyPost_ret (v := .tuple #[.string (((bs S ++ ⟨#[111, 117, 116, 32]⟩) ++ bs []) ++ ⟨#[10]⟩), .bool false]) (R := TxLn w none) (by simp [results, Tryz.results15, go_sem]) rfl ⟨⟨_, rfl⟩, below_drewN B2.out B2.out.size⟩
          | some t =>
            simp only [Option.getD_some, Option.isSome_some]
            have htl := hal t rfl
            have hzt : (bs t).size = t.length := bs_size _
            by_cases hnm : x.nm = []
            · have c1 : ((bs x.nm).toList == []) = true := cmpYes hnm
              have hso := HGO.out ([111, 117, 116, 32] ++ t) (by rw [HLN.out, if_pos hnm]; rfl)
              have HALL := Lib.hid (show T = some (S ++ (([111, 117, 116, 32] ++ t) ++ [10])) by
                have h2 := lns_all (by rw [HB.out.2.1, ← HLS.out]; exact hso)
                rw [HT.out, HA.out, h2, HSS.out]
                simp)
              have HC := Lib.hid (show ((bs S ++ ⟨#[111, 117, 116, 32]⟩) ++ bs t) ++ ⟨#[10]⟩ = bs (S ++ (([111, 117, 116, 32] ++ t) ++ [10])) by rw [show (⟨#[10]⟩ : ByteArray) = bs [10] from rfl, show (⟨#[111, 117, 116, 32]⟩ : ByteArray) = bs [111, 117, 116, 32] from rfl, cat_bs, cat_bs, cat_bs]; exact congrArg bs (by simp))
              have hall := HALL.out
              subst hall
              clear hso hnm
              go_wp2
              go_quiet (fail)
              go_wp2
              refine bodyPost_ret (v := .tuple #[.string (((bs S ++ ⟨#[111, 117, 116, 32]⟩) ++ bs t) ++ ⟨#[10]⟩), .bool true]) (R := TxLn w (some (S ++ (([111, 117, 116, 32] ++ t) ++ [10])))) (by simp [results, Tryz.results15, go_sem]) rfl ⟨by rw [HC.out], below_drewN B2.out B2.out.size⟩
            · have c1 : ((bs x.nm).toList == []) = false := cmpNo hnm
              have hno : T = none := by rw [HT.out, HA.out, HST.out (by rw [HLN.out, if_neg hnm])]; rfl
              subst hno
              clear hnm
              go_wp2
              go_quiet (fail)
              go_wp2
              refine bodyPost_ret (v := .tuple #[.string (((bs S ++ ⟨#[111, 117, 116, 32]⟩) ++ bs t) ++ ⟨#[10]⟩), .bool false]) (R := TxLn w none) (by simp [results, Tryz.results15, go_sem]) rfl ⟨⟨_, rfl⟩, below_drewN B2.out B2.out.size⟩
        · have t1 : ((k : Int) == (m : Int) - 1) = false := by rw [beq_eq_false_iff_ne]; omega
          have hl1 := HEX.out 2 (by decide)
          obtain ⟨a, ha⟩ : ∃ a, a = exprP x.its 2 := ⟨_, rfl⟩
          rw [← ha] at hl1
          have HL1 := Lib.hid hl1
          have HLN := Lib.hid (show lnP x false = if nameB x.nm = false then none else a.map fun t => x.nm ++ [58, 32] ++ t by rw [ha]; rfl)
          have hal : ∀ t, a = some t → t.length ≤ 6144 := fun t ht => exprP_len (by rw [← ha]; exact ht) fun y hy => (HXX.out.2.2.1.its y hy).ns
          have HST := Lib.hid (fun (hno : lnP x false = none) => lns_stop HXX.out.2.1 (by rw [← HXX.out.1, HB.out.2.1, decide_eq_false hlast]; exact hno))
          have HGO := Lib.hid (fun (s : List UInt8) (hso : lnP x false = some s) => lns_go HXX.out.2.1 HQ.out.1 (by rw [← HXX.out.1, HB.out.2.1, decide_eq_false hlast]; exact hso))
          clear ha hl1
          go_wp2_with fail
          refine HL1.out.mono ?_
          rintro e w2 ⟨rfl, b2⟩
          have k9 : w2.heap[wl.heap.size]? = some (.cells #[.string (bs x.nm), .int .i64 x.pl, .slice A1 x.its.length c1] 33 (0, 0)) := (b2.block _ (by simp)).trans (heap_alloc_new wl _)
          have k90 : w2.cell? ⟨wl.heap.size, 0, none⟩ = some (.string (bs x.nm)) := by rw [cell_of_row _ _ _ _ _ _ k9]; rfl
          have B2q := Lib.hid (HQ.out.2.trans ((HW9.out.trans (b2.mono HW9.out.size)).mono hbl))
          have HK9 := Lib.hid k9
          clear b2 u0 u1 u2 q1 k9 y1 y1a
          cases a with
          | none =>
            simp only [Option.getD_none, Option.isSome_none]
            have B2 := Lib.hid (HBR.out.trans (B2q.out.mono HBR.out.size))
            have hno : T = none := by rw [HT.out, HA.out, HST.out (by rw [HLN.out]; split <;> rfl)]; rfl
            subst hno
            go_wp2
            exact bodyPost_ret (v := .tuple #[.string ⟨#[]⟩, .bool false]) (R := TxLn w none) (by simp [results, Tryz.results15, go_sem]) rfl ⟨⟨_, rfl⟩, B2.out⟩
          | some t =>
            simp only [Option.getD_some, Option.isSome_some]
            have htl := hal t rfl
            have hzt : (bs t).size = t.length := bs_size _
            cases hnb : nameB x.nm with
            | false =>
              have HRN := Lib.hid (show ∀ W, Calls Tryz.prog 30 #[.string (bs x.nm)] W fun e w' => e = .returned (.bool false) ∧ Below W.heap.size W w' from fun W => by have := rname_any x.nm W hnl; rw [hnb] at this; exact this)
              have hno : T = none := by rw [HT.out, HA.out, HST.out (by rw [HLN.out, if_pos hnb])]; rfl
              subst hno
              clear hnb
              go_wp2_with fail
              refine (HRN.out _).mono ?_
              rintro e w3 ⟨rfl, b3⟩
              have B3 := Lib.hid (HBR.out.trans ((B2q.out.trans (b3.mono B2q.out.size)).mono HBR.out.size))
              clear b3 k90
              go_wp2
              exact bodyPost_ret (v := .tuple #[.string ⟨#[]⟩, .bool false]) (R := TxLn w none) (by simp [results, Tryz.results15, go_sem]) rfl ⟨⟨_, rfl⟩, B3.out⟩
            | true =>
              have HRN := Lib.hid (show ∀ W, Calls Tryz.prog 30 #[.string (bs x.nm)] W fun e w' => e = .returned (.bool true) ∧ Below W.heap.size W w' from fun W => by have := rname_any x.nm W hnl; rw [hnb] at this; exact this)
              have hn16 := nameB_le hnb
              have HN := Lib.hid (HGO.out (x.nm ++ [58, 32] ++ t) (by rw [HLN.out, if_neg (by rw [hnb]; decide)]; rfl))
              have HC := Lib.hid (show ((((bs S ++ bs x.nm) ++ ⟨#[58, 32]⟩) ++ bs t) ++ ⟨#[10]⟩) = bs (S ++ ((x.nm ++ [58, 32] ++ t) ++ [10])) by rw [show (⟨#[10]⟩ : ByteArray) = bs [10] from rfl, show (⟨#[58, 32]⟩ : ByteArray) = bs [58, 32] from rfl, cat_bs, cat_bs, cat_bs, cat_bs]; exact congrArg bs (by simp))
              clear hnb
              go_wp2_with fail
              refine (HRN.out _).mono ?_
              rintro e w3 ⟨rfl, b3⟩
              have B3 := Lib.hid (B2q.out.trans (b3.mono B2q.out.size))
              have k3 := (b3.block _ (heap_lt HK9.out)).trans HK9.out
              have k30 : w3.cell? ⟨wl.heap.size, 0, none⟩ = some (.string (bs x.nm)) := by rw [cell_of_row _ _ _ _ _ _ k3]; rfl
              clear b3 k90 k3
              go_wp2
              go_roundw
              case rel =>
                refine ⟨k + 1, ac2 ++ ((x.nm ++ [58, 32] ++ t) ++ [10]), S ++ ((x.nm ++ [58, 32] ++ t) ++ [10]), by omega, by go_num, by rw [HC.out], by simp only [List.length_append, List.length_cons, List.length_nil]; omega, ?_, Lib.hid ⟨HN.out, B3.out⟩⟩
                exact Lib.hid (by rw [HSS.out, List.append_assoc])
              case measure => simp [intOf]; omega
theorem txt5_any (w : World) (p : Pg) (Ai Al : Option Addr) (n ci m cl : Nat) (h : PA w p Ai Al n ci m cl) : Calls Tryz.prog 15 #[pgV Ai n ci Al m cl] w (TxLn w (textP p)) := by
  unfold textP
  rw [h.hn, h.hm]
  have hs := h.hs
  by_cases h1 : 64 < n
  · rw [if_pos (by omega)]; exact txt5_ins w Ai Al n ci m cl h1 hs
  by_cases h2 : 64 < m
  · rw [if_pos (by omega)]; exact txt5_lns w Ai Al n ci m cl (by omega) h2 hs
  by_cases h3 : 64 < n + m
  · rw [if_pos h3]; exact txt5_both w Ai Al n ci m cl (by omega) (by omega) h3
  rw [if_neg h3]
  by_cases h0 : m = 0
  · have hl : p.lns = [] := List.length_eq_zero_iff.1 (by rw [h.hm, h0])
    have e : ((insP p.ins).bind fun t => (lnsP p.lns).map fun u => t ++ u) = none := by
      rw [hl]
      cases insP p.ins <;> rfl
    rw [e]
    subst h0
    exact txt5_no w Ai Al n ci cl (by omega)
  · exact txt5_ok w p Ai Al n ci m cl h.hn h.hm h.pu h.pb (by omega) (by omega)
end Go.Proofs.YtbapgdhcbfpdoaaGreatDoor
/- The document's Right and Show (layer 5). -/
namespace Go.Proofs.YtbapgdhcbfpdoaaGreatDoor
open Go.RowKit
set_option linter.unusedVariables false
set_option linter.unusedSimpArgs false
set_option maxRecDepth 100000
set_option maxHeartbeats 1600000 in
theorem rright5_any (w : World) (p : Pg) (Ai Al : Option Addr) (n ci m cl : Nat) (h : PA w p Ai Al n ci m cl) : Calls Tryz.prog 8 #[pgV Ai n ci Al m cl] w fun e w' => e = .returned (.bool (rightP p)) ∧ Below w.heap.size w w' := by
  have hW : Below w.heap.size w (w.alloc (pgC Ai n ci Al m cl)) := (Below.refl _ _).alloc (Nat.le_refl _) _
  have ht := txt5_any _ p Ai Al n ci m cl (h.below hW)
  have HW := Lib.hid hW
  cases hx : textP p with
  | none =>
    rw [hx] at ht
    have HT := Lib.hid ht
    rw [show rightP p = false by unfold rightP; rw [hx]; rfl]
    clear hW h hx ht
    go_enter Tryz.func8, Tryz.ntmps8
    go_wp2_with fail
    refine HT.out.mono ?_
    rintro e w1 ⟨⟨s, rfl⟩, b1⟩
    have B1 := Lib.hid (HW.out.trans (b1.mono HW.out.size))
    clear b1
    go_wp2
    go_ret
    exact ⟨rfl, B1.out⟩
  | some t =>
    rw [hx] at ht
    have HT := Lib.hid ht
    rw [show rightP p = true by unfold rightP; rw [hx]; rfl]
    clear hW h hx ht
    go_enter Tryz.func8, Tryz.ntmps8
    go_wp2_with fail
    refine HT.out.mono ?_
    rintro e w1 ⟨he, b1⟩
    have he : e = .returned (.tuple #[.string (bs t), .bool true]) := he
    subst he
    have B1 := Lib.hid (HW.out.trans (b1.mono HW.out.size))
    clear b1
    go_wp2
    go_ret
    exact ⟨rfl, B1.out⟩
set_option maxHeartbeats 1600000 in
theorem rshow5_any (w : World) (p : Pg) (Ai Al : Option Addr) (n ci m cl : Nat) (h : PA w p Ai Al n ci m cl) : Calls Tryz.prog 10 #[pgV Ai n ci Al m cl] w fun e w' => e = .returned (.tuple #[.string (bs (showP p).1), .int .i64 (showP p).2]) ∧ Below w.heap.size w w' := by
  have hW : Below w.heap.size w (w.alloc (pgC Ai n ci Al m cl)) := (Below.refl _ _).alloc (Nat.le_refl _) _
  have ht := txt5_any _ p Ai Al n ci m cl (h.below hW)
  have HW := Lib.hid hW
  unfold showP
  cases hx : textP p with
  | none =>
    rw [hx] at ht
    have HT := Lib.hid ht
    clear hW h hx ht
    go_enter Tryz.func10, Tryz.ntmps10
    go_wp2_with fail
    refine HT.out.mono ?_
    rintro e w1 ⟨⟨s, rfl⟩, b1⟩
    have B1 := Lib.hid (HW.out.trans (b1.mono HW.out.size))
    clear b1
    go_wp2
    exact bodyPost_ret (v := .tuple #[.string ⟨#[]⟩, .int .i64 50]) (R := fun e w' => e = .returned (.tuple #[.string (bs []), .int .i64 50]) ∧ Below w.heap.size w w') (by simp [results, Tryz.results10, go_sem]) rfl ⟨rfl, B1.out⟩
  | some t =>
    rw [hx] at ht
    have HT := Lib.hid ht
    clear hW h hx ht
    simp only
    by_cases hs : 65536 < t.length
    · have hd : decide ((65536 : Int) < ((bs t).size : Int)) = true := decide_eq_true (by rw [bs_size]; omega)
      rw [if_pos hs]
      clear hs
      go_enter Tryz.func10, Tryz.ntmps10
      go_wp2_with fail
      refine HT.out.mono ?_
      rintro e w1 ⟨he, b1⟩
      have he : e = .returned (.tuple #[.string (bs t), .bool true]) := he
      subst he
      have B1 := Lib.hid (HW.out.trans (b1.mono HW.out.size))
      clear b1
      go_wp2
      exact bodyPost_ret (v := .tuple #[.string ⟨#[]⟩, .int .i64 30]) (R := fun e w' => e = .returned (.tuple #[.string (bs []), .int .i64 30]) ∧ Below w.heap.size w w') (by simp [results, Tryz.results10, go_sem]) rfl ⟨rfl, B1.out⟩
    · have hd : decide ((65536 : Int) < ((bs t).size : Int)) = false := decide_eq_false (by rw [bs_size]; omega)
      rw [if_neg hs]
      clear hs
      go_enter Tryz.func10, Tryz.ntmps10
      go_wp2_with fail
      refine HT.out.mono ?_
      rintro e w1 ⟨he, b1⟩
      have he : e = .returned (.tuple #[.string (bs t), .bool true]) := he
      subst he
      have B1 := Lib.hid (HW.out.trans (b1.mono HW.out.size))
      clear b1
      go_wp2
      exact bodyPost_ret (v := .tuple #[.string (bs t), .int .i64 0]) (R := fun e w' => e = .returned (.tuple #[.string (bs t), .int .i64 0]) ∧ Below w.heap.size w w') (by simp [results, Tryz.results10, go_sem]) rfl ⟨rfl, B1.out⟩
end Go.Proofs.YtbapgdhcbfpdoaaGreatDoor
