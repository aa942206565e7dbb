/- Layer 4, put together: ShwZ, ShwZa. -/
import Derived.Test.YtbapgdhcbfpdoaaGreatDoorZSm
/- Contract of the code's text. -/
namespace Go.Proofs.YtbapgdhcbfpdoaaGreatDoor
open Go.RowKit
set_option linter.unusedVariables false
set_option maxRecDepth 100000
abbrev IB (B : Nat) (l : List UInt8) (w : World) : Prop := Lib.IsBuilderF 65 5 B B (Lib.byteCells l) w
theorem IB.below {B : Nat} {l : List UInt8} {w w' : World} (h : IB B l w) (hb : Below w.heap.size w w') : IB B l w' := by
  have one : ∀ p, Lib.BuilderAtF 65 5 B B p (Lib.byteCells l) w → Lib.BuilderAtF 65 5 B B p (Lib.byteCells l) w' := by
    rintro p ⟨hB, v, hbk, hown, hne⟩
    refine ⟨hB, v, (hb.block _ (heap_lt hbk)).trans hbk, ⟨hown.1, ?_⟩, hne⟩
    rcases hown.2 with hn | ⟨g, cap, cur, fz, rfl, hg, hgg, rest⟩
    · exact .inl hn
    · exact .inr ⟨g, cap, cur, fz, rfl, hg, (hb.block _ (heap_lt hgg)).trans hgg, rest⟩
  rcases h with h | h
  · exact .inl (one _ h)
  · exact .inr (one _ h)
theorem IB.lt {B : Nat} {l : List UInt8} {w : World} (h : IB B l w) : B < w.heap.size := by
  rcases h with h | h <;> exact h.lt
/-- The builder takes a text more. -/
theorem write_text {B : Nat} {l s : List UInt8} {w : World} (h : IB B l w) (hl : l.length + s.length ≤ 140737488355328) :
    Calls Tryz.prog 24 #[.pointer (some ⟨B, 0, none⟩), .string (bs s)] w fun e w' => (∃ n, e = .returned (.tuple #[.int .i64 n, .nilIface])) ∧ IB B (l ++ s) w' ∧ Below B w w' ∧ ∀ k, w.heap[k]? = some (tabM 26) → k ≠ B → w'.heap[k]? = some (tabM 26) := by
  refine (Tryz.bWrite B B _ (bs s) w h (by rw [Lib.byteCells_length, bs_size]; exact hl) (Nat.le_of_lt h.lt)).mono ?_
  rintro e w' ⟨rfl, h1, h2, h3⟩
  refine ⟨⟨_, rfl⟩, .inr ?_, h2, fun k hk hne => h3 k _ hk (fun e => hne (by injection e)) (fun c fz e => by cases e)⟩
  rw [Lib.strCells_eq, bs_list, ← Lib.byteCells_append] at h1
  exact h1
theorem idxIn0 (b o len c k : Nat) (h1 : k < len) (w : World) : (Instr.indexAt 22 (.slice (some ⟨b, o, none⟩) len c) (.int .i64 (k : Int))).run Tryz.prog w = .ok (.pointer (some ⟨b, o + k * 3, none⟩)) w := by
  have e := WideShapes.add_plain b o (k * 3)
  have h0 : (0 : Int) ≤ (k : Int) ∧ (k : Int) < (len : Int) := by omega
  go_simp
theorem idxLn0 (b o len c k : Nat) (h1 : k < len) (w : World) : (Instr.indexAt 23 (.slice (some ⟨b, o, none⟩) len c) (.int .i64 (k : Int))).run Tryz.prog w = .ok (.pointer (some ⟨b, o + k * 3, none⟩)) w := by
  have e := WideShapes.add_plain b o (k * 3)
  have h0 : (0 : Int) ≤ (k : Int) ∧ (k : Int) < (len : Int) := by omega
  go_simp
abbrev pgC (Ai : Option Addr) (n ci : Nat) (Al : Option Addr) (m cl : Nat) : Obj := .cells #[.slice Ai n ci, .slice Al m cl] 25
abbrev pgV (Ai : Option Addr) (n ci : Nat) (Al : Option Addr) (m cl : Nat) : Value := .agg #[.slice Ai n ci, .slice Al m cl]
set_option maxHeartbeats 1600000 in
theorem text_empty (w : World) (Ai Al : Option Addr) (n ci cl : Nat) : Calls Tryz.prog 14 #[pgV Ai n ci Al 0 cl] w (TxAns w none) := by
  go_enter Tryz.func14, Tryz.ntmps14
  go_wp2
  exact bodyPost_ret (v := .tuple #[.string ⟨#[]⟩, .bool false]) (R := TxAns w none) (by simp [results, Tryz.results14, go_sem]) rfl ⟨rfl, (Below.refl _ _).alloc (Nat.le_refl _) _⟩
set_option maxHeartbeats 1600000 in
theorem text_many (w : World) (Ai Al : Option Addr) (n ci m cl : Nat) (hm : 0 < m) (hs : 64 < n + m) (hs2 : n + m ≤ 4611686018427387904) : Calls Tryz.prog 14 #[pgV Ai n ci Al m cl] w (TxAns w none) := by
  have h0 : ((m : Int) == 0) = false := beq0 (by omega)
  have hd : decide ((64 : Int) < (n : Int) + (m : Int)) = true := decide_eq_true (by omega)
  have hwr : wrap64 ((n : Int) + (m : Int)) = (n : Int) + (m : Int) := by unfold wrap64; omega
  clear hm hs hs2
  go_enter Tryz.func14, Tryz.ntmps14
  go_wp2
  exact bodyPost_ret (v := .tuple #[.string ⟨#[]⟩, .bool false]) (R := TxAns w none) (by simp [results, Tryz.results14, go_sem]) rfl ⟨rfl, (Below.refl _ _).alloc (Nat.le_refl _) _⟩
set_option maxHeartbeats 6400000 in
theorem text_ok (w : World) (p : Pg) (Ai Al : Option Addr) (n ci m cl : Nat) (hla : LaidP w) (hn : p.ins.length = n) (hm : p.lns.length = m) (h : PU w Ai Al p) (hb : PgB p) (hm0 : 0 < m) (hs : n + m ≤ 64) (hci : n ≤ ci) (hcl : m ≤ cl) :
    Calls Tryz.prog 14 #[pgV Ai n ci Al m cl] w (TxAns w ((insP p.ins).bind fun t => (lnsP p.lns).map fun u => t ++ u)) := by
  have h0 : ((m : Int) == 0) = false := beq0 (by omega)
  have hd : decide ((64 : Int) < (n : Int) + (m : Int)) = false := decide_eq_false (by omega)
  obtain ⟨T, hT⟩ : ∃ T, T = (insP p.ins).bind fun t => (lnsP p.lns).map fun u => t ++ u := ⟨_, rfl⟩
  rw [← hT]
  have HT := Lib.hid hT
  have HP := Lib.hid h
  have HB := Lib.hid (And.intro hn (And.intro hm hb))
  have HLA := Lib.hid hla
  obtain ⟨W, hW0⟩ : ∃ W, W = w.alloc (pgC Ai n ci Al m cl) := ⟨_, rfl⟩
  have hW : Below w.heap.size w W := by rw [hW0]; exact (Below.refl _ _).alloc (Nat.le_refl _) _
  have hWs : W.heap.size = w.heap.size + 1 := by rw [hW0]; simp
  have k1 : W.heap[w.heap.size]? = some (pgC Ai n ci Al m cl) := by rw [hW0]; exact heap_alloc_new w _
  obtain ⟨B, hBd⟩ : ∃ B, B = w.heap.size + 1 := ⟨_, rfl⟩
  obtain ⟨V, hV0⟩ : ∃ V, V = W.alloc (.cells #[.pointer none, .slice none 0 0] 65) := ⟨_, rfl⟩
  have hVb : Below B W V := by rw [hBd, ← hWs, hV0]; exact (Below.refl _ _).alloc (Nat.le_refl _) _
  have hVn : V.heap[B]? = some (.cells #[.pointer none, .slice none 0 0] 65 (0, 0)) := by rw [hBd, ← hWs, hV0]; exact heap_alloc_new W _
  have hI0 : IB B [] V := .inl ⟨Nat.le_refl _, _, hVn, World.ownsRowF_nil _ _ _ _, by simp [Value.ownBlock]⟩
  have hwB : w.heap.size < B := by omega
  have KB := Lib.hid (fun W' (hb : Below B W W') => (show W'.cell? ⟨w.heap.size, 0, none⟩ = some (.slice Ai n ci) ∧ W'.cell? ⟨w.heap.size, 1, none⟩ = some (.slice Al m cl) from by
    have e := (hb.block _ hwB).trans k1
    constructor <;> · rw [cell_of_row _ _ _ _ _ _ e]; rfl))
  have HW := Lib.hid (And.intro hW0 (And.intro hV0 (And.intro hBd hW)))
  have HV := Lib.hid (And.intro hVb hI0)
  have HBW := Lib.hid (fun W' (hb : Below B W W') => (show Below w.heap.size w W' from hW.trans (hb.mono (by omega))))
  clear hT h hn hm hb hla hW0 hW k1 hV0 hVb hVn hI0 hWs hBd
  go_enter Tryz.func14, Tryz.ntmps14
  go_wp2_with fail
  rw [← HW.out.1, ← HW.out.2.1, ← HW.out.2.2.1]
  go_loopw [31] (fun i wr => ∃ (j : Nat) (acc : List UInt8), j ≤ n ∧ i = .int .i64 j ∧ Hid (insP (p.ins.take j) = some acc ∧ acc.length ≤ 201 * j ∧ IB B acc wr ∧ Below B W wr)) (fun i _ => n - (intOf i).toNat)
  case atStart => exact ⟨0, [], by omega, rfl, rfl, Nat.le_refl _, HV.out.2, HV.out.1⟩
  case round =>
    obtain ⟨j, acc, hj, rfl, HR⟩ := hrel
    have hbr := HR.out.2.2.1.lt
    by_cases hlt : j < n
    · obtain ⟨x, hx⟩ : ∃ x, x = p.ins.getD j default := ⟨_, rfl⟩
      have hjl : j < p.ins.length := by rw [HB.out.1]; exact hlt
      have hxb : InB x := by
        rw [hx, List.getD_eq_getElem?_getD, List.getElem?_eq_getElem hjl]; exact HB.out.2.2.ins _ (List.getElem_mem hjl)
      obtain ⟨b, o, rfl, lb, hi⟩ := HP.out.ins (by omega)
      obtain ⟨a0, a1, A1, c1, a2, a3, a4⟩ := hi j hjl
      rw [← hx] at a0 a1 a2 a3 a4
      have hbw := HBW.out _ HR.out.2.2.2
      have u0 : wr.cell? ⟨b, o + j * 3, none⟩ = some (.string (bs x.nm)) := (cell_below hbw lb _).trans a0
      have u1 : wr.cell? ⟨b, o + j * 3 + 1, none⟩ = some (.int .i64 x.pl) := (cell_below hbw lb _).trans a1
      have u2 : wr.cell? ⟨b, o + j * 3 + 2, none⟩ = some (.slice A1 x.sd.length c1) := (cell_below hbw lb _).trans a2
      have q1 := idxIn0 b o n ci j hlt
      have hsu := a4.below hbw
      have HXX := Lib.hid (And.intro hx (And.intro hjl (And.intro hxb (And.intro a3 (And.intro hbw hsu)))))
      clear a0 a1 a2 a3 a4 hi hx hjl hxb hbw hsu
      go_wp2_with fail
      have hWx : Below wr.heap.size wr (wr.alloc (inC x A1 x.sd.length c1)) := (Below.refl _ _).alloc (Nat.le_refl _) _
      refine (inputText_any _ (HLA.out.below (HXX.out.2.2.2.2.1.trans (hWx.mono HXX.out.2.2.2.2.1.size))) x x.sd.length A1 c1 rfl (HXX.out.2.2.2.2.2.below hWx) HXX.out.2.2.1 HXX.out.2.2.2.1).mono ?_
      rintro e w2 ⟨he, b2⟩
      have hb12 := hWx.trans (b2.mono hWx.size)
      have B2 := Lib.hid (HR.out.2.2.2.trans (hb12.mono (Nat.le_of_lt hbr)))
      have I2 := Lib.hid (HR.out.2.2.1.below hb12)
      clear b2 hWx hb12
      cases hsp : inputP x with
      | none =>
        rw [hsp] at he
        obtain ⟨s, rfl⟩ := he
        have HF := Lib.hid (show TxAns w T (.returned (.tuple #[.string ⟨#[]⟩, .bool false])) w2 from ⟨by rw [HT.out, ins_stop HXX.out.2.1 (by rw [← HXX.out.1]; exact hsp)]; rfl, HBW.out _ B2.out⟩)
        clear hsp u0 u1 u2 q1
        go_wp2
        exact bodyPost_ret (v := .tuple #[.string ⟨#[]⟩, .bool false]) (R := TxAns w T) (by simp [results, Tryz.results14, go_sem]) rfl HF.out
      | some s =>
        rw [hsp] at he
        subst he
        have hsl := inputP_len hsp fun d hd => (HXX.out.2.2.1.sd d hd).2
        have hzs : (bs s).size ≤ 200 := by rw [bs_size]; exact hsl
        have HN := Lib.hid (And.intro hsl (ins_go HXX.out.2.1 HR.out.1 (by rw [← HXX.out.1]; exact hsp)))
        clear hsp u0 u1 u2 q1 hsl
        go_wp2_with fail
        rw [show bs s ++ ⟨#[10]⟩ = bs (s ++ [10]) by rw [show (⟨#[10]⟩ : ByteArray) = bs [10] from rfl, cat_bs]]
        have hwt := write_text I2.out (s := s ++ [10]) (by have := HR.out.2.1; have := HN.out.1; simp only [List.length_append, List.length_cons, List.length_nil]; omega)
        refine hwt.mono ?_
        rintro e w3 ⟨⟨z, rfl⟩, i3, b3, _⟩
        clear hwt
        have I3 := Lib.hid i3
        have B3 := Lib.hid (B2.out.trans b3)
        clear i3 b3
        go_wp2
        go_roundw
        case rel => exact ⟨j + 1, acc ++ (s ++ [10]), by omega, by go_num, HN.out.2, by have := HR.out.2.1; have := HN.out.1; simp only [List.length_append, List.length_cons, List.length_nil]; omega, I3.out, B3.out⟩
        case measure => simp [intOf]; omega
    · obtain rfl : j = n := by omega
      have hrun := HR.out.1
      rw [List.take_of_length_le (by rw [HB.out.1]; exact Nat.le_refl _)] at hrun
      have HA := Lib.hid (And.intro hrun HR.out.2.1)
      have hlA : acc.length ≤ 201 * 64 := by have := HR.out.2.1; omega
      obtain ⟨kb0, kb1⟩ := KB.out _ HR.out.2.2.2
      clear hrun
      go_wp2_with fail
      refine (verbs_any wr).mono ?_
      rintro e w4 ⟨rfl, hw4⟩
      have hv4 : Below wr.heap.size wr w4 := by rw [hw4]; exact (Below.refl _ _).alloc (Nat.le_refl _) _
      have t4 : w4.heap[wr.heap.size]? = some (tabM 26) := by rw [hw4]; exact heap_alloc_new wr _
      obtain ⟨M, hM⟩ : ∃ M, M = wr.heap.size := ⟨_, rfl⟩
      rw [← hM] at t4 ⊢
      have B4 := Lib.hid (HR.out.2.2.2.trans (hv4.mono (Nat.le_of_lt hbr)))
      have I4 := Lib.hid (HR.out.2.2.1.below hv4)
      have T4 := Lib.hid t4
      have hMB : M ≠ B := by omega
      have HMB := Lib.hid hMB
      clear kb0 kb1
      obtain ⟨kb0, kb1⟩ := KB.out _ B4.out
      clear hw4 hv4 t4 hM hMB HR
      go_wp2_with fail
      go_loopw [50] (fun i wr => ∃ (k : Nat) (ac2 : List UInt8), k ≤ m ∧ i = .int .i64 k ∧ Hid (lnsR p.lns k = some ac2 ∧ ac2.length ≤ 6171 * k ∧ IB B (acc ++ ac2) wr ∧ Below B W wr ∧ wr.heap[M]? = some (tabM 26))) (fun i _ => m - (intOf i).toNat)
      case atStart => exact ⟨0, [], by omega, rfl, by unfold lnsR; rw [if_pos (by rw [HB.out.2.1]; exact hm0)]; rfl, Nat.le_refl _, by rw [List.append_nil]; exact I4.out, B4.out, T4.out⟩
      case round =>
        clear kb0 kb1
        obtain ⟨k, ac2, hk, rfl, HR⟩ := hrel
        rename World => wl
        have hbr := HR.out.2.2.1.lt
        by_cases hlt : k < m
        · obtain ⟨x, hx⟩ : ∃ x, x = p.lns.getD k default := ⟨_, rfl⟩
          have hkl : k < p.lns.length := by rw [HB.out.2.1]; exact hlt
          have hxb : LnB x := by
            rw [hx, List.getD_eq_getElem?_getD, List.getElem?_eq_getElem hkl]; exact HB.out.2.2.lns _ (List.getElem_mem hkl)
          obtain ⟨b, o, rfl, lb, hi⟩ := HP.out.lns (by omega)
          obtain ⟨a0, a1, A1, c1, a2, a3, a4⟩ := hi k hkl
          rw [← hx] at a0 a1 a2 a3 a4
          have hbw := HBW.out _ HR.out.2.2.2.1
          have u0 : wl.cell? ⟨b, o + k * 3, none⟩ = some (.string (bs x.nm)) := (cell_below hbw lb _).trans a0
          have u1 : wl.cell? ⟨b, o + k * 3 + 1, none⟩ = some (.int .i64 x.pl) := (cell_below hbw lb _).trans a1
          have u2 : wl.cell? ⟨b, o + k * 3 + 2, none⟩ = some (.slice A1 x.its.length c1) := (cell_below hbw lb _).trans a2
          have q1 := idxLn0 b o m cl k hlt
          have hsu := a4.below hbw
          have HXX := Lib.hid (And.intro hx (And.intro hkl (And.intro hxb (And.intro a3 (And.intro hbw hsu)))))
          obtain ⟨kb0, kb1⟩ := KB.out _ HR.out.2.2.2.1
          obtain ⟨D, hD⟩ : ∃ D, D = decide (k + 1 = m) := ⟨_, rfl⟩
          have hDq : ((k : Int) == (m : Int) - 1) = D := by
            rw [hD]
            by_cases e : k + 1 = m
            · rw [decide_eq_true e, beq_iff_eq]; omega
            · rw [decide_eq_false e, beq_eq_false_iff_ne]; omega
          have HD := Lib.hid hD
          clear a0 a1 a2 a3 a4 hi hx hkl hxb hbw hsu hD
          have hWxb : Below B W (wl.alloc (lnC x A1 x.its.length c1)) := HR.out.2.2.2.1.trans (((Below.refl _ _).alloc (Nat.le_refl _) _).mono (Nat.le_of_lt hbr))
          obtain ⟨_, kb2⟩ := KB.out _ hWxb
          clear kb0 kb1 hWxb
          go_wp2_with fail
          have hWx : Below wl.heap.size wl (wl.alloc (lnC x A1 x.its.length c1)) := (Below.refl _ _).alloc (Nat.le_refl _) _
          refine (lineText_any _ M x x.its.length A1 c1 (HLA.out.below (HXX.out.2.2.2.2.1.trans (hWx.mono HXX.out.2.2.2.2.1.size))) ((hWx.block _ (heap_lt HR.out.2.2.2.2)).trans HR.out.2.2.2.2) rfl (HXX.out.2.2.2.2.2.below hWx) HXX.out.2.2.1 HXX.out.2.2.2.1 D).mono ?_
          rintro e w2 ⟨he, b2⟩
          have hb12 := hWx.trans (b2.mono hWx.size)
          have B2 := Lib.hid (HR.out.2.2.2.1.trans (hb12.mono (Nat.le_of_lt hbr)))
          have I2 := Lib.hid (HR.out.2.2.1.below hb12)
          have T2 := Lib.hid ((hb12.block _ (heap_lt HR.out.2.2.2.2)).trans HR.out.2.2.2.2)
          clear b2 hWx hb12 kb2
          cases hsp : lnP x D with
          | none =>
            rw [hsp] at he
            obtain ⟨s, rfl⟩ := he
            have HF := Lib.hid (show TxAns w T (.returned (.tuple #[.string ⟨#[]⟩, .bool false])) w2 from ⟨by rw [HT.out, HA.out.1, lns_stop HXX.out.2.1 (by rw [← HXX.out.1, HB.out.2.1, ← HD.out]; exact hsp)]; rfl, HBW.out _ B2.out⟩)
            clear hsp u0 u1 u2 q1
            go_wp2
            exact bodyPost_ret (v := .tuple #[.string ⟨#[]⟩, .bool false]) (R := TxAns w T) (by simp [results, Tryz.results14, go_sem]) rfl HF.out
          | some s =>
            rw [hsp] at he
            subst he
            have hsl := lnP_len hsp fun x' hx' => (HXX.out.2.2.1.its x' hx').ns
            have hzs : (bs s).size ≤ 6170 := by rw [bs_size]; exact hsl
            have HN := Lib.hid (And.intro hsl (lns_go HXX.out.2.1 HR.out.1 (by rw [← HXX.out.1, HB.out.2.1, ← HD.out]; exact hsp)))
            clear hsp u0 u1 u2 q1 hsl
            go_wp2_with fail
            rw [show bs s ++ ⟨#[10]⟩ = bs (s ++ [10]) by rw [show (⟨#[10]⟩ : ByteArray) = bs [10] from rfl, cat_bs]]
            have hwt := write_text I2.out (s := s ++ [10]) (by have := HR.out.2.1; have := HN.out.1; simp only [List.length_append, List.length_cons, List.length_nil]; omega)
            refine hwt.mono ?_
            rintro e w3 ⟨⟨z, rfl⟩, i3, b3, k3⟩
            have I3 := Lib.hid i3
            have B3 := Lib.hid (B2.out.trans b3)
            have T3 := Lib.hid (k3 M T2.out HMB.out)
            clear hwt i3 b3 k3
            go_wp2
            go_roundw
            case rel => exact ⟨k + 1, ac2 ++ (s ++ [10]), by omega, by go_num, HN.out.2, by have := HR.out.2.1; have := HN.out.1; simp only [List.length_append, List.length_cons, List.length_nil]; omega, by rw [← List.append_assoc]; exact I3.out, B3.out, T3.out⟩
            case measure => simp [intOf]; omega
        · obtain rfl : k = m := by omega
          have hall := HR.out.1
          rw [← HB.out.2.1] at hall
          have HF := Lib.hid (lns_all hall)
          have hst := Tryz.bString B B (acc ++ ac2) wl HR.out.2.2.1 (Nat.le_of_lt hbr)
          clear hall
          go_wp2_with fail
          refine hst.mono ?_
          rintro e w5 ⟨rfl, _, b5, _⟩
          have HG := Lib.hid (show TxAns w T (.returned (.tuple #[.string (bs (acc ++ ac2)), .bool true])) w5 from ⟨by rw [HT.out, HA.out.1, HF.out]; rfl, HBW.out _ (HR.out.2.2.2.1.trans b5)⟩)
          clear hst b5
          go_wp2
          exact bodyPost_ret (v := .tuple #[.string (bs (acc ++ ac2)), .bool true]) (R := TxAns w T) (by simp [results, Tryz.results14, go_sem, bs]) rfl HG.out
end Go.Proofs.YtbapgdhcbfpdoaaGreatDoor
/- Contracts of the code's Right and Show. -/
namespace Go.Proofs.YtbapgdhcbfpdoaaGreatDoor
open Go.RowKit
set_option linter.unusedVariables false
set_option maxRecDepth 100000
/-- A program that is handed in, as two slices. -/
structure PA (w : World) (p : Pg) (Ai Al : Option Addr) (n ci m cl : Nat) : Prop where
  hn : p.ins.length = n
  hm : p.lns.length = m
  pu : PU w Ai Al p
  pb : PgB p
  hci : n ≤ ci
  hcl : m ≤ cl
  hs : n + m ≤ 4611686018427387904
theorem PA.below {w w' : World} {p : Pg} {Ai Al : Option Addr} {n ci m cl : Nat} (h : PA w p Ai Al n ci m cl) (hb : Below w.heap.size w w') : PA w' p Ai Al n ci m cl := ⟨h.hn, h.hm, h.pu.below hb, h.pb, h.hci, h.hcl, h.hs⟩
theorem text_any (w : World) (p : Pg) (Ai Al : Option Addr) (n ci m cl : Nat) (hla : LaidP w) (h : PA w p Ai Al n ci m cl) : Calls Tryz.prog 14 #[pgV Ai n ci Al m cl] w (TxAns w (textP p)) := by
  unfold textP
  rw [h.hn, h.hm]
  by_cases h0 : m = 0
  · have hl : p.lns = [] := List.length_eq_zero_iff.1 (by rw [h.hm, h0])
    have e : (if 64 < n + m then none else (insP p.ins).bind fun t => (lnsP p.lns).map fun u => t ++ u) = none := by
      rw [hl]
      split
      · rfl
      · cases insP p.ins <;> rfl
    rw [e]
    subst h0
    exact text_empty w Ai Al n ci cl
  by_cases h1 : 64 < n + m
  · rw [if_pos h1]; exact text_many w Ai Al n ci m cl (by omega) h1 h.hs
  · rw [if_neg h1]; exact text_ok w p Ai Al n ci m cl hla h.hn h.hm h.pu h.pb (by omega) (by omega) h.hci h.hcl
set_option maxHeartbeats 1600000 in
theorem right5_any (w : World) (p : Pg) (Ai Al : Option Addr) (n ci m cl : Nat) (hla : LaidP w) (h : PA w p Ai Al n ci m cl) : Calls Tryz.prog 7 #[pgV Ai n ci Al m cl] w fun e w' => e = .returned (.bool (rightP p)) ∧ Below w.heap.size w w' := by
  have hW : Below w.heap.size w (w.alloc (pgC Ai n ci Al m cl)) := (Below.refl _ _).alloc (Nat.le_refl _) _
  have HT := Lib.hid (text_any _ p Ai Al n ci m cl (hla.below hW) (h.below hW))
  have HW := Lib.hid hW
  obtain ⟨D, hD⟩ : ∃ D, D = rightP p := ⟨_, rfl⟩
  have hD2 : (textP p).isSome = D := hD.symm
  rw [← hD]
  clear hW hla h hD
  go_enter Tryz.func7, Tryz.ntmps7
  go_wp2_with fail
  refine HT.out.mono ?_
  rintro e w1 ⟨rfl, b1⟩
  rw [hD2]
  have B1 := Lib.hid (HW.out.trans (b1.mono HW.out.size))
  clear b1 hD2
  go_wp2
  go_ret
  exact ⟨rfl, B1.out⟩
set_option maxHeartbeats 1600000 in
theorem show5_any (w : World) (p : Pg) (Ai Al : Option Addr) (n ci m cl : Nat) (hla : LaidP w) (h : PA w p Ai Al n ci m cl) : Calls Tryz.prog 9 #[pgV Ai n ci Al m cl] w fun e w' => e = .returned (.tuple #[.string (bs (showP p).1), .int .i64 (showP p).2]) ∧ Below w.heap.size w w' := by
  have hW : Below w.heap.size w (w.alloc (pgC Ai n ci Al m cl)) := (Below.refl _ _).alloc (Nat.le_refl _) _
  have ht := text_any _ p Ai Al n ci m cl (hla.below hW) (h.below hW)
  have HW := Lib.hid hW
  unfold showP
  clear hW hla h
  cases hx : textP p with
  | none =>
    rw [hx] at ht
    have HT := Lib.hid ht
    clear hx ht
    go_enter Tryz.func9, Tryz.ntmps9
    go_wp2_with fail
    refine HT.out.mono ?_
    rintro e w1 ⟨rfl, b1⟩
    have B1 := Lib.hid (HW.out.trans (b1.mono HW.out.size))
    clear b1
    simp only [Option.getD_none, Option.isSome_none]
    go_wp2
    refine bodyPost_ret (v := .tuple #[.string ⟨#[]⟩, .int .i64 50]) (R := fun e w' => e = .returned (.tuple #[.string (bs []), .int .i64 50]) ∧ Below w.heap.size w w') (by simp [results, Tryz.results9, go_sem]) rfl ⟨rfl, B1.out⟩
  | some s =>
    rw [hx] at ht
    have HT := Lib.hid ht
    clear hx ht
    simp only
    by_cases hs : 65536 < s.length
    · have hd : decide ((65536 : Int) < ((bs s).size : Int)) = true := decide_eq_true (by rw [bs_size]; omega)
      rw [if_pos hs]
      have hs2 : ¬ s.length = 0 := by omega
      clear hs hs2
      go_enter Tryz.func9, Tryz.ntmps9
      go_wp2_with fail
      refine HT.out.mono ?_
      rintro e w1 ⟨rfl, b1⟩
      have B1 := Lib.hid (HW.out.trans (b1.mono HW.out.size))
      clear b1
      simp only [Option.getD_some, Option.isSome_some]
      go_wp2
      refine bodyPost_ret (v := .tuple #[.string ⟨#[]⟩, .int .i64 30]) (R := fun e w' => e = .returned (.tuple #[.string (bs []), .int .i64 30]) ∧ Below w.heap.size w w') (by simp [results, Tryz.results9, go_sem]) rfl ⟨rfl, B1.out⟩
    · have hd : decide ((65536 : Int) < ((bs s).size : Int)) = false := decide_eq_false (by rw [bs_size]; omega)
      rw [if_neg hs]
      clear hs
      go_enter Tryz.func9, Tryz.ntmps9
      go_wp2_with fail
      refine HT.out.mono ?_
      rintro e w1 ⟨rfl, b1⟩
      have B1 := Lib.hid (HW.out.trans (b1.mono HW.out.size))
      clear b1
      simp only [Option.getD_some, Option.isSome_some]
      go_wp2
      refine bodyPost_ret (v := .tuple #[.string (bs s), .int .i64 0]) (R := fun e w' => e = .returned (.tuple #[.string (bs s), .int .i64 0]) ∧ Below w.heap.size w w') (by simp [results, Tryz.results9, go_sem]) rfl ⟨rfl, B1.out⟩
end Go.Proofs.YtbapgdhcbfpdoaaGreatDoor
