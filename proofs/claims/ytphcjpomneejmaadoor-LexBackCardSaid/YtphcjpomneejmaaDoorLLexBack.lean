/- What is spelled, with a blank between, is read as just these tokens, for all lists of tokens, of which the first 1000 count. The row lists five package-level variables of the library with what the program text lays in them; the card ties them to it. No other condition. -/
import Derived.Test.YtphcjpomneejmaaDoorLexOt
namespace Go.Proofs.YtphcjpomneejmaaDoor.lexBack
open Go.ChangeShapes Go.WideShapes Go.ChangeAt Go.RowKit
set_option linter.unusedVariables false

/-- What the loop over the tokens holds. -/
def Inv (w wr : World) (k : Nat) (v4 v5 : Value) (bl : List UInt8) (us : List Tk) : Prop :=
  OwnB wr w.heap.size v4 bl ∧ Own wr w.heap.size v5 us ∧ Below w.heap.size w wr ∧ SpI bl us ∧ bl.length ≤ 22 * k ∧ us.length ≤ k ∧ ∀ t ∈ us, 0 ≤ t.a ∧ t.a ≤ 22000
theorem three {w : World} {base n : Nat} {v : Value} {bl tx : List UInt8} (h : w.ownsRow base 5 1 v n (bcells bl ++ Lib.strCells (bs tx) ++ [.int .u8 32])) (hn : n = bl.length + (bs tx).size + 1) : OwnB w base v (bl ++ tx ++ [32]) := by
  rw [str_cells] at h
  have e : bcells bl ++ bcells tx ++ [Value.int .u8 32] = bcells (bl ++ tx) ++ bcells [32] := by unfold bcells; rw [List.map_append]; rfl
  rw [e] at h
  exact OwnB.app h (by rw [hn, bs_size]; simp)
theorem step {w wr W2 w5 w6 w7 : World} {k : Nat} {v4 v5 v5' v6 v7 : Value} {bl : List UInt8} {us : List Tk} {t : Tk} {o1 o2 o3 : Obj} (HV : Inv w wr k v4 v5 bl us) (hb2 : Below wr.heap.size wr W2)
    (h5 : w5.ownsRow w.heap.size 32 4 v5' (us.length + 1) (us.flatMap Tk.cells ++ Tk.cells { t with a := bl.length })) (g5 : ((W2.alloc o1).alloc o2).grownBy w5 v5.ownBlock)
    (h6 : w6.ownsRow w.heap.size 5 1 v6 (bl.length + (bs (txt t)).size) (bcells bl ++ Lib.strCells (bs (txt t)))) (g6 : w5.grownBy w6 v4.ownBlock)
    (h7 : w7.ownsRow w.heap.size 5 1 v7 (bl.length + (bs (txt t)).size + 1) (bcells bl ++ Lib.strCells (bs (txt t)) ++ [.int .u8 32])) (g7 : (w6.alloc o3).grownBy w7 v6.ownBlock) (hsp : Sp t) (hsl : (txt t).length ≤ 21) (hk : k < 1000) :
    Inv w w7 (k + 1) v7 v5' (bl ++ txt t ++ [32]) (us ++ [{ t with a := bl.length }]) := by
  obtain ⟨i1, i2, i3, i4, i5, i6, i7⟩ := HV
  have z0 := i3.size
  have z1 := hb2.size
  have z2 := g5.size
  have z3 := g6.size
  have z4 := g7.size
  simp at z2 z4
  have r4 := row_below i1 hb2
  have r5 := i2.below hb2
  have r4' := World.ownsRow.kept (World.ownsRow.alloc (World.ownsRow.alloc r4 o1) o2) g5 (rows_ne r4 r5 (by decide))
  have t6 := World.ownsRow.kept h5 g6 (rows_ne h5 r4' (by decide))
  have t7 := World.ownsRow.kept (World.ownsRow.alloc t6 o3) g7 (rows_ne t6 h6 (by decide))
  refine ⟨three h7 rfl, Own.snoc t7, ?_, i4.snoc hsp, ?_, ?_, ?_⟩
  · have b2 := i3.trans (hb2.mono z0)
    have b5 := ((b2.alloc (by omega) o1).alloc (by simp; omega) o2).grown g5 (by simp; omega) (fun j hj => (World.ownsRow.lt r5 j hj).1)
    have b6 := b5.grown g6 (by omega) (fun j hj => (World.ownsRow.lt r4' j hj).1)
    exact (b6.alloc (by omega) o3).grown g7 (by simp; omega) (fun j hj => (World.ownsRow.lt h6 j hj).1)
  · simp; omega
  · simp; omega
  · intro x hx
    rcases List.mem_append.1 hx with hx | hx
    · exact i7 x hx
    · simp at hx; subst hx; simp; omega
theorem skip {w wr W2 : World} {k : Nat} {v4 v5 : Value} {bl : List UInt8} {us : List Tk} (HV : Inv w wr k v4 v5 bl us) (hb2 : Below wr.heap.size wr W2) : Inv w W2 (k + 1) v4 v5 bl us := by
  obtain ⟨i1, i2, i3, i4, i5, i6, i7⟩ := HV
  exact ⟨row_below i1 hb2, i2.below hb2, i3.trans (hb2.mono i3.size), i4, by omega, by omega, i7⟩
set_option maxRecDepth 100000 in
set_option maxHeartbeats 1500000 in
theorem walk (A0 : Option Addr) (l : List Tk) (c0 : Nat) (hr : Rd0 A0 l c0) (hk : ∀ t ∈ l, TkOk t) (w : World) (hL : Laid w) (hrd : Rd w w.heap.size A0 l) : Calls Tryd.prog 5 #[.slice A0 l.length c0] w fun e w' => e = .returned (.bool true) ∧ Below w.heap.size w w' := by
  obtain ⟨i0, hi, hz0, hz1, hz2⟩ := info_parts infoT
  obtain ⟨i1, hi', hy0, hy1, hy2⟩ := info_parts infoB
  have HI := Lib.hid (And.intro hi (And.intro hz0 (And.intro hz1 hz2)))
  have HJ := Lib.hid (And.intro hi' (And.intro hy0 (And.intro hy1 hy2)))
  have HK := Lib.hid hk
  have HR := Lib.hid hrd
  have hll := hr.1
  clear hi hz0 hz1 hz2 hi' hy0 hy1 hy2 hk hrd hr
  go_enter Tryd.func5, Tryd.ntmps5
  go_wp2_with fail
  refine (shown_any _ hL).mono ?_
  rintro e W1 ⟨rfl, b1⟩
  have B := Lib.hid b1
  clear b1
  go_wp2_with fail
  go_loopw [6, 4, 5] (fun i s4 s5 wr => ∃ (k : Nat) (A4 A5 : Option Addr) (c4 c5 : Nat) (bl : List UInt8) (us : List Tk), k ≤ l.length ∧ k ≤ 1000 ∧ i = .int .i64 k ∧ s4 = .slice A4 bl.length c4 ∧ s5 = .slice A5 us.length c5 ∧ Hid (Inv w wr k (.slice A4 bl.length c4) (.slice A5 us.length c5) bl us)) (fun i _ _ _ => l.length - (intOf i).toNat)
  case atStart => exact ⟨0, none, none, 0, 0, [], [], by omega, by omega, rfl, rfl, rfl, OwnB.nil _ _, Own.nil _ _, B.out, SpI.nil, by simp, by simp, fun t ht => by simp at ht⟩
  case round =>
    obtain ⟨k, A4, A5, c4, c5, bl, us, hkl, hk1, rfl, rfl, rfl, HV⟩ := hrel
    by_cases hlt : k < l.length ∧ k < 1000
    · obtain ⟨h1, h2⟩ := hlt
      have h1' : decide (k < l.length) = true := decide_eq_true h1
      have h2' : decide ((k : Int) < 1000) = true := decide_eq_true (by omega)
      obtain ⟨b, o, rfl, hb, hc⟩ := HR.out.at_ k h1
      have HOK := Lib.hid (HK.out _ (nth_mem h1))
      have HC0 := Lib.hid (hc k h1)
      obtain ⟨d0, d1, d2, d3⟩ := HC0.out.below HV.out.2.2.1 hb
      have q1 := idxT b o l.length c0 (k : Int) (by omega) (by omega)
      rw [Int.toNat_natCast] at q1
      have HLW := Lib.hid (hL.below HV.out.2.2.1)
      have hsz0 := HV.out.2.2.1.size
      clear hc
      by_cases hsp : Sp (nth l k)
      · have HSP := Lib.hid hsp
        have hsl := sp_len hsp HOK.out.1.1 HOK.out.1.2
        have hbl := HV.out.2.2.2.2.1
        have hul := HV.out.2.2.2.2.2.1
        have e1 := sp_yes hsp
        have hcon := fun W (hW : Laid W) => spell_any (nth l k) W hW HOK.out
        unfold SpRes at hcon
        rw [e1] at hcon
        have HCON := Lib.hid hcon
        clear hsp e1 hcon
        go_wp2_with fail
        refine (HCON.out _ HLW.out).mono ?_
        rintro e W2 ⟨rfl, b2⟩
        have HB2 := Lib.hid b2
        have HO4 := Lib.hid (row_below HV.out.1 b2)
        have HO5 := Lib.hid (HV.out.2.1.below b2)
        have hsz2 := b2.size
        clear d0 d1 d2 d3 b2
        obtain ⟨d0, d1, d2, d3⟩ := (HC0.out.below HV.out.2.2.1 hb).below HB2.out (by omega)
        have hzw : (bs (txt (nth l k))).size = (txt (nth l k)).length := bs_size _
        go_wp2_with (at_builtin; first
          | (refine wpList_append_own _ rfl (.tmp 50) (.tmp 52) _ rfl w.heap.size 32 i0 _ 4 40 Tryd.underlying23 HI.out.1 HI.out.2.1 HI.out.2.2.1 HI.out.2.2.2 rfl (by omega) (.slice A5 us.length c5) us.length (us.flatMap Tk.cells) rfl (World.ownsRow.alloc (World.ownsRow.alloc HO5.out _) _) ⟨W2.heap.size + 1, 0, none⟩ 1 1 (Tk.cells ⟨(nth l k).k, bl.length, (nth l k).w, (nth l k).n⟩) rfl rfl (cells_at (Cells4.box2 W2 _ ⟨(nth l k).k, bl.length, (nth l k).w, (nth l k).n⟩)) (oneCells _) (by unfold maxLen; omega) (by omega) (by simp; omega) ?_; intro v5 w5 hown5 hgr5 hnil5; clear hnil5; obtain ⟨A5', c5', rfl⟩ := (Own.snoc hown5).shape; have HW5 := Lib.hid hown5; have HG5 := Lib.hid hgr5; clear hown5 hgr5)
          | (refine Lib.wpList_append_own_string _ rfl (.tmp 54) (.tmp 55) _ _ rfl w.heap.size 5 i1 Tryd.underlying36 Tryd.underlying9 HJ.out.1 HJ.out.2.1 HJ.out.2.2.1 HJ.out.2.2.2 (.slice A4 bl.length c4) bl.length (bcells bl) rfl (World.ownsRow.kept (World.ownsRow.alloc (World.ownsRow.alloc HO4.out _) _) HG5.out (rows_ne HO4.out HO5.out (by decide))) (bs (txt (nth l k))) rfl (by unfold maxLen; omega) (by omega) (by have := HG5.out.size; simp at this; omega) ?_; intro v6 w6 hown6 hgr6 hnil6; clear hnil6; have HW6 := Lib.hid hown6; have HG6 := Lib.hid hgr6; clear hown6 hgr6)
          | (refine wpList_append_own _ rfl (.tmp 57) (.tmp 58) _ rfl w.heap.size 5 i1 _ 1 1 Tryd.underlying36 HJ.out.1 HJ.out.2.1 HJ.out.2.2.1 HJ.out.2.2.2 rfl (by omega) v6 (bl.length + (bs (txt (nth l k))).size) (bcells bl ++ Lib.strCells (bs (txt (nth l k)))) rfl (World.ownsRow.alloc HW6.out _) ⟨w6.heap.size, 0, none⟩ 1 1 [.int .u8 32] rfl rfl (blank_at w6) (by intro u hu; simp at hu; subst hu; rfl) (by unfold maxLen; omega) (by omega) (by have := HG5.out.size; have := HG6.out.size; simp at *; omega) ?_; intro v7 w7 hown7 hgr7 hnil7; clear hnil7; obtain ⟨A7, c7, rfl⟩ := (three hown7 rfl).shape; have HW7 := Lib.hid hown7; have HG7 := Lib.hid hgr7; clear hown7 hgr7))
        go_roundw
        case rel => exact ⟨k + 1, A7, A5', c7, c5', bl ++ txt (nth l k) ++ [32], us ++ [(⟨(nth l k).k, bl.length, (nth l k).w, (nth l k).n⟩ : Tk)], by omega, by omega, by go_num, by simp, by simp, Lib.hid (step HV.out HB2.out HW5.out HG5.out HW6.out HG6.out HW7.out HG7.out HSP.out hsl h2)⟩
        case measure => simp [intOf]; omega
      · have e1 := sp_no hsp
        have HCON := Lib.hid (show ∀ W, Laid W → Calls Tryd.prog 15 #[.agg #[.int .i64 (nth l k).k, .int .i64 (nth l k).a, .string (bs (nth l k).w), .int .i64 (nth l k).n]] W fun e w' => e = .returned (.tuple #[.string ⟨#[]⟩, .bool false]) ∧ Below W.heap.size W w' from fun W hW => by
          have h := spell_any (nth l k) W hW HOK.out
          unfold SpRes at h
          rw [e1] at h
          exact h)
        clear hsp e1
        go_wp2_with fail
        refine (HCON.out _ HLW.out).mono ?_
        rintro e W2 ⟨rfl, b2⟩
        have HB2 := Lib.hid b2
        clear d0 d1 d2 d3 b2
        go_wp2
        go_roundw
        case rel => exact ⟨k + 1, A4, A5, c4, c5, bl, us, by omega, by omega, by go_num, rfl, rfl, Lib.hid (skip HV.out HB2.out)⟩
        case measure => simp [intOf]; omega
    · have htest : decide (k < l.length) = false ∨ (decide (k < l.length) = true ∧ decide ((k : Int) < 1000) = false) := by
        by_cases h1 : k < l.length
        · exact .inr ⟨decide_eq_true h1, decide_eq_false (by omega)⟩
        · exact .inl (decide_eq_false h1)
      have hcv := HV.out.1.text
      have hbl := HV.out.2.2.2.2.1
      have hul := HV.out.2.2.2.2.2.1
      have HT := Lib.hid (show lexR (bs bl).data.toList = .ok us by rw [bs_list]; exact HV.out.2.2.2.1.read (by omega))
      have hbz : (bs bl).size ≤ 140737488355328 := by rw [bs_size]; omega
      have HLW := Lib.hid (hL.below HV.out.2.2.1)
      have BW := Lib.hid HV.out.2.2.1
      have RW := Lib.hid HV.out.2.1.rd
      have HBD := Lib.hid HV.out.2.2.2.2.2.2
      clear hlt hbl
      rcases htest with ht | ⟨ht, ht2⟩
      all_goals
        go_wp2_with fail
        refine (read_ok _ _ us _ HT.out rfl HLW.out hbz).mono ?_
        rintro e W2 ⟨A8, c8, rfl, r8, b8, n8⟩
        replace BW := Lib.hid (up2 BW.out b8)
        replace RW := Lib.hid (RW.out.below b8)
        have R8 := Lib.hid r8
        clear b8 r8 hcv
        go_wp2_with fail
        refine (same_at A8 A5 us us _ _ c8 c5 0 0 _ rfl rfl R8.out RW.out (by omega) (sh_zero _).symm ⟨by omega, by omega⟩ (fun t ht => by have := HBD.out t ht; omega)).mono ?_
        rintro e W3 ⟨rfl, b3⟩
        replace BW := Lib.hid (up2 BW.out b3)
        clear b3
        go_wp2
        go_ret
        exact ⟨rfl, BW.out⟩

theorem reads (os : Os) {H : Type} (enc : TypeId × Value → H) : ∃ places, DataW.whole enc Tryd.prog ((startWorld os).forCall (fun _ _ => 0) ⟨#[], #[.slice none 0 0], []⟩).memory Tryd.f5.params.toList Rows.lexBackSpec.vars false (#[.slice none 0 0] : Array Value).toList 8 = some ([.nil], [], places) :=
  ⟨[], by kernel_rfl⟩
set_option maxRecDepth 100000 in
set_option maxHeartbeats 1000000 in
theorem lifted (os : Os) (started : os.Started) (H : Type) (enc : TypeId × Value → H) (F : Stop.Interp) :
    ReturnsInHanded {} Tryd.checked os 5 .any ((OpenSpec.ofChange Rows.lexBackSpec).preRow enc Tryd.prog Tryd.f5 Rows.lexBackRow.domain false Rows.lexBackRow.laid) (((OpenSpec.ofChange Rows.lexBackSpec).at F).post enc Tryd.prog Tryd.f5 false true false false) := by
  obtain ⟨places, hx⟩ := reads os enc
  refine returnsInHanded_of_row (C := Tryd.checked) (s := OpenSpec.ofChange Rows.lexBackSpec) lawOwn started (by kernel_rfl) Tryd.func5
    (witness_row_atRef (enc := enc) (C := Tryd.checked) false (startWorld os) #[.slice none 0 0] rfl (by kernel_rfl) (by kernel_rfl) (by kernel_rfl)
      (OpenSpec.preRow_of_cond 8 hx (by kernel_rfl) (fun k hk => by cases hk) (by kernel_rfl) (start_met os _))) ?_
  intro W base args ds gs before hval0 hW _ _ hwt hlaid _ _
  have hval : ∀ (j : Nat) t v, Tryd.f5.params[j]? = some t → args[j]? = some v → Value.okWide Tryd.prog W .any base t v := hval0
  have hW' := hW
  obtain ⟨p, q, hA0, hV, rfl, hfz, hnd⟩ := hW
  have hA : DataW.TrodAll enc Tryd.prog W 0 (fun _ => true) true Tryd.f5.params.toList args.toList ds p := hA0
  rw [Tryd.params5] at hA hval
  obtain ⟨rfl, rfl⟩ := trodVars_none hV
  simp only [List.append_nil] at hW'
  obtain ⟨v0, vs0, d0, ds0, p0, q0, hargs, rfl, hp, h0, z0⟩ := trodAll_cons hA
  obtain ⟨rfl, rfl, rfl⟩ := trodAll_nil z0
  obtain rfl : args = #[v0] := by cases args; simp_all
  have hback := fun (W' : World) (hg : Below W.heap.size W W') (sp : Nat → Bool) (hs : ∀ q ∈ p, sp q.block = true) => lawArgsB hg (sp := sp) (by kernel_rfl) hA (fun q hq => hW'.lt q hq) hs
  have hw0 := wt_of (P := Tryd.prog) hwt
  obtain ⟨x0, y0, k0', rfl⟩ := okWide_slice Tryd.underlying23 (hval 0 23 v0 rfl rfl)
  obtain ⟨fu0, hf0⟩ := h0
  obtain ⟨A0, l0, c0, e0, hr0, hm0, hk0⟩ := open_tokens hf0 hw0
  have hw1 := wt_skip hw0
  simp [Value.cells] at e0
  obtain ⟨rfl, rfl, rfl⟩ := e0
  refine (walk _ l0 _ ⟨hm0, trivial⟩ hk0 W (laid_of hlaid) hr0).mono fun e W' ⟨he, hg⟩ => ?_
  subst he
  exact ⟨_, rfl, lawPost (pa := p) (pv := []) hW' hg (List.append_nil _).symm (fun _ _ _ => (trodAll_cons_mk (shut_bool Tryd.underlying4 _) trodAll_mk0)) (fun sp hs => hback W' hg sp hs) (fun _ _ => rfl)
    (ok_one (by kernel_rfl) rfl (okWide_bool_mk Tryd.underlying4 _))⟩
theorem said : Rows.LexBackSaid :=
  OpenClaim.holds_of_cond 5 Tryd.f5 rfl rfl rfl rfl rfl rfl rfl ⟨rfl, rfl, rfl, rfl, rfl⟩ rfl rfl rfl rfl rfl (by kernel_rfl) Tryd.func5 (by kernel_rfl)
    (of_decide_eq_true (by kernel_rfl)) (by unfold Func.isWrapper; first | (rw [if_pos (by decide +kernel)]; kernel_rfl) | (rw [if_neg (by decide +kernel)]; exact ⟨rfl, rfl⟩))
    (fun os started H enc _ F => by rw [OpenClaim.pre_eq_preRow]; exact lifted os started H enc F)
theorem plain (f : FuncId) (fn : Func) (hf : Tryd.pinned.checked.prog.funcNamed "windrow/windrowlaw03.LexBack" = some f) (hfn : Tryd.pinned.checked.prog.funcs[f]? = some fn) :
    true = Tryd.pinned.checked.prog.looks [] ∧ ∀ (j : Nat) t, fn.params[j]? = some t → Tryd.pinned.checked.prog.wantsStandIn t = false := by
  obtain rfl : f = 5 := Option.some.inj ((show Tryd.prog.funcNamed "windrow/windrowlaw03.LexBack" = some 5 by kernel_rfl).symm.trans hf) |>.symm
  obtain rfl : fn = Tryd.f5 := (Option.some.inj (Tryd.func5.symm.trans hfn)).symm
  refine ⟨by kernel_rfl, fun j t ht => ?_⟩
  rw [Tryd.params5] at ht
  have hm : t ∈ [23] := by simpa using Array.mem_of_getElem? ht
  have hall : ([23].all fun u => !Tryd.prog.wantsStandIn u) = true := by kernel_rfl
  exact (show Tryd.prog.wantsStandIn t = false by simpa using List.all_eq_true.1 hall t hm)
/-- The statement. -/
theorem proved : Rows.LexBackCardSaid :=
  Claim7.holds_tied_plain_at .later [] _ _ _ _ said (fun _ h => by cases h) (by kernel_rfl) (fun _ h => by cases h) lexBack_row_tie rfl ⟨rfl, rfl⟩ (by kernel_rfl) rfl plain (by kernel_rfl)
end Go.Proofs.YtphcjpomneejmaaDoor.lexBack
