/- The law PolyGrows. -/
import Derived.Test.YtogflbpphacokaaPolyLD
import Derived.BigQuiet
namespace Go.Proofs.Ytogflbpphacokaa.polyGrows
open Go.ChangeShapes Go.WideShapes Go.ChangeAt Go.RowKit Go.Joins
set_option linter.unusedVariables false
set_option maxRecDepth 100000 in
set_option maxHeartbeats 4000000 in
theorem walk (A0 : Option Addr) (a0 : List Mo) (k0 : Nat) (A1_0 : Option Addr) (a1_0 : List Int) (k1_0 : Nat) (A1_1 : Option Addr) (a1_1 : List Int) (k1_1 : Nat) (a2 : Int) (w : World) (r0 : Rd w w.heap.size A0 a0) (m0 : a0.length ≤ maxLen) (r1_0 : RdI w w.heap.size A1_0 a1_0) (m1_0 : a1_0.length ≤ maxLen) (r1_1 : RdI w w.heap.size A1_1 a1_1) (m1_1 : a1_1.length ≤ maxLen) (w2 : (Lit.int .i64 a2).wf = true) :
    Calls Try.prog 10 #[.slice A0 a0.length k0, .agg #[.slice A1_0 a1_0.length k1_0, .slice A1_1 a1_1.length k1_1], .int .i64 a2] w fun e w' => e = .returned (.bool true) ∧ Below w.heap.size w w' := by
  have U0 := Lib.hid r0.1
  have hn1 := m1_0
  unfold maxLen at hn1
  have hn2 := m1_1
  unfold maxLen at hn2
  have D1 := Lib.hid r1_0.1
  have D2 := Lib.hid r1_1.1
  have Hr0 := Lib.hid r0
  clear r0
  have Hr1_0 := Lib.hid r1_0
  clear r1_0
  have Hr1_1 := Lib.hid r1_1
  clear r1_1
  go_enter Try.func10, Try.ntmps10
  go_wp2_with fail
  refine (shown_any _).mono ?_
  rintro e W1 ⟨rfl, b1⟩
  have B := Lib.hid (((Gr.refl w).alloc _).below.trans (b1.mono (by simp)))
  have s0 : W1.cell? ⟨w.heap.size, 0, none⟩ = some (.slice A1_0 a1_0.length k1_0) := (b1.cell (p := ⟨w.heap.size, 0, none⟩) (by simp)).trans (by go_simp <;> rfl)
  have s1 : W1.cell? ⟨w.heap.size, 1, none⟩ = some (.slice A1_1 a1_1.length k1_1) := (b1.cell (p := ⟨w.heap.size, 1, none⟩) (by simp)).trans (by go_simp <;> rfl)
  replace Hr0 := Lib.hid (Hr0.out.below B.out)
  replace Hr1_0 := Lib.hid (Hr1_0.out.below B.out)
  replace Hr1_1 := Lib.hid (Hr1_1.out.below B.out)
  clear b1
  go_wp2
  go_quiet (fail)
  obtain ⟨W2, hW2⟩ : ∃ W2, W2 = W1.drewN nq := ⟨_, rfl⟩
  rw [← hW2]
  have g2 : Gr W1 W2 := by rw [hW2]; exact (Gr.refl _).drewN _
  clear s0 s1 hW2
  replace Hr0 := Lib.hid (Hr0.out.gr g2)
  replace Hr1_0 := Lib.hid (Hr1_0.out.gr g2)
  replace Hr1_1 := Lib.hid (Hr1_1.out.gr g2)
  replace B := Lib.hid (B.out.trans (g2.below.mono B.out.size))
  clear g2
  by_cases hgr : growsB a0 = true
  rotate_left
  · have hgf : growsB a0 = false := by simpa using hgr
    have HGF := Lib.hid hgf
    clear hgr hgf
    go_wp2_with fail
    refine (grows_is _ _ _ false _ Hr0.out m0 HGF.out).mono ?_
    rintro e W3 ⟨rfl, g3⟩
    have b3 := g3.below
    clear g3
    replace Hr0 := Lib.hid (Hr0.out.below b3)
    replace Hr1_0 := Lib.hid (Hr1_0.out.below b3)
    replace Hr1_1 := Lib.hid (Hr1_1.out.below b3)
    replace B := Lib.hid (B.out.trans (b3.mono B.out.size))
    clear b3
    go_wp2_with fail
    refine (covers_is _ _ _ a2 false _ Hr0.out m0 (covers_no HGF.out)).mono ?_
    rintro e W4 ⟨rfl, g4⟩
    have b4 := g4.below
    clear g4
    replace Hr0 := Lib.hid (Hr0.out.below b4)
    replace Hr1_0 := Lib.hid (Hr1_0.out.below b4)
    replace Hr1_1 := Lib.hid (Hr1_1.out.below b4)
    replace B := Lib.hid (B.out.trans (b4.mono B.out.size))
    clear b4
    go_wp2
    go_ret
    exact ⟨rfl, B.out⟩
  have HGR := Lib.hid hgr
  clear hgr
  go_wp2_with fail
  refine (grows_is _ _ _ true _ Hr0.out m0 HGR.out).mono ?_
  rintro e W3 ⟨rfl, g3⟩
  have b3 := g3.below
  clear g3
  replace Hr0 := Lib.hid (Hr0.out.below b3)
  replace Hr1_0 := Lib.hid (Hr1_0.out.below b3)
  replace Hr1_1 := Lib.hid (Hr1_1.out.below b3)
  replace B := Lib.hid (B.out.trans (b3.mono B.out.size))
  clear b3
  by_cases h6 : a1_0.length ≤ 6
  rotate_left
  · go_wp2
    go_ret
    exact ⟨rfl, B.out⟩
  have hmk := make_nums a1_0.length h6
  go_wp2
  clear hmk
  go_loopw [40] (fun i wr => ∃ (k : Nat) (L : List Int), k ≤ a1_0.length ∧ i = .int .i64 k ∧ UpTo a1_0 a1_1 k L ∧ OwnI wr W3.heap.size W3.heap.size L ∧ Below W3.heap.size W3 wr) (fun i _ => a1_0.length - (intOf i).toNat)
  case atStart => exact ⟨0, List.replicate a1_0.length 0, by omega, rfl, UpTo.start _ _, OwnI.new _ _ h6, ((Gr.refl _).alloc _).below⟩
  case round =>
    obtain ⟨k, L, hk, rfl, hu, ho, hb⟩ := hrel
    have HU := Lib.hid hu
    have HO := Lib.hid ho
    have HB := Lib.hid hb
    have hL := hu.1
    clear hu ho hb
    by_cases hlt : k < a1_0.length
    · obtain ⟨b, o, rfl, hbb, hc⟩ := Hr1_0.out.2 (by omega)
      have c0 : wr.cell? ⟨b, o + k, none⟩ = some (.int .i64 (ith a1_0 k)) := (HB.out.cell (p := ⟨b, o + k, none⟩) hbb).trans (hc k hlt)
      have u0 := HO.out.cell (k := k) (by omega)
      have f0 := World.ownsRow.frozenAt HO.out k
      have q1 := idxN W3.heap.size 0 a1_0.length a1_0.length (k : Int) (by omega) (by omega)
      rw [Int.toNat_natCast, Nat.zero_add] at q1
      have q2 := idxN b o a1_0.length k1_0 (k : Int) (by omega) (by omega)
      rw [Int.toNat_natCast] at q2
      have hbd := Lib.hid (ith_bd D1.out hlt)
      clear hc
      go_wp2
      obtain ⟨Ws, hWs⟩ : ∃ Ws, Ws = wr.setCell ⟨W3.heap.size, k, none⟩ (.int .i64 (ith a1_0 k)) := ⟨_, rfl⟩
      rw [← hWs]
      have HOs := Lib.hid (show OwnI Ws W3.heap.size W3.heap.size (L.set k (ith a1_0 k)) from by rw [hWs]; exact HO.out.set k _)
      have HBs := Lib.hid (show Below W3.heap.size W3 Ws from by rw [hWs]; exact HB.out.setCell (p := ⟨W3.heap.size, k, none⟩) (Nat.le_refl _) _)
      clear c0 u0 f0 q2 hWs
      have u1 := HOs.out.cell (k := k) (by rw [List.length_set]; omega)
      rw [ith_set (by omega), if_pos rfl] at u1
      by_cases hm : k < a1_1.length
      · have hd : decide (k < a1_1.length) = true := by simpa using hm
        obtain ⟨b2, o2, rfl, hbb2, hc2⟩ := Hr1_1.out.2 (by omega)
        have c2 : Ws.cell? ⟨b2, o2 + k, none⟩ = some (.int .i64 (ith a1_1 k)) := (HBs.out.cell (p := ⟨b2, o2 + k, none⟩) hbb2).trans (hc2 k hm)
        have q3 := idxN b2 o2 a1_1.length k1_1 (k : Int) (by omega) (by omega)
        rw [Int.toNat_natCast] at q3
        clear hc2
        by_cases hgt : ith a1_0 k < ith a1_1 k
        · have hd2 : decide (ith a1_0 k < ith a1_1 k) = true := by simpa using hgt
          go_quiet (fail)
          obtain ⟨Wt, hWt⟩ : ∃ Wt, Wt = Ws.drewN nq := ⟨_, rfl⟩
          rw [← hWt]
          have HOt := Lib.hid (show OwnI Wt W3.heap.size W3.heap.size (L.set k (ith a1_0 k)) from by rw [hWt]; exact HOs.out.gr ((Gr.refl _).drewN _).below)
          have HBt := Lib.hid (show Below W3.heap.size W3 Wt from by rw [hWt]; exact HBs.out.trans (((Gr.refl _).drewN _).below.mono HBs.out.size))
          have c3 : Wt.cell? ⟨b2, o2 + k, none⟩ = some (.int .i64 (ith a1_1 k)) := by rw [hWt]; exact c2
          clear hWt c2 u1
          have u2 := HOt.out.cell (k := k) (by rw [List.length_set]; omega)
          have f2 := World.ownsRow.frozenAt HOt.out k
          go_wp2
          clear c3 u2 f2 q1 q3
          go_roundw
          case rel => exact ⟨k + 1, (L.set k (ith a1_0 k)).set k (ith a1_1 k), by omega, by go_num, by rw [List.set_set]; exact HU.out.step hlt (upv_yes hm hgt).symm (ith_bd D2.out hm), HOt.out.set k _, HBt.out.setCell (p := ⟨W3.heap.size, k, none⟩) (Nat.le_refl _) _⟩
          case measure => simp [intOf]; omega
        · have hd2 : decide (ith a1_0 k < ith a1_1 k) = false := by simpa using hgt
          go_quiet (fail)
          obtain ⟨Wt, hWt⟩ : ∃ Wt, Wt = Ws.drewN nq := ⟨_, rfl⟩
          rw [← hWt]
          have HOt := Lib.hid (show OwnI Wt W3.heap.size W3.heap.size (L.set k (ith a1_0 k)) from by rw [hWt]; exact HOs.out.gr ((Gr.refl _).drewN _).below)
          have HBt := Lib.hid (show Below W3.heap.size W3 Wt from by rw [hWt]; exact HBs.out.trans (((Gr.refl _).drewN _).below.mono HBs.out.size))
          clear hWt c2 u1 q1 q3
          go_wp2
          go_roundw
          case rel => exact ⟨k + 1, L.set k (ith a1_0 k), by omega, by go_num, HU.out.step hlt (upv_no (fun h => hgt h.2)).symm hbd.out, HOt.out, HBt.out⟩
          case measure => simp [intOf]; omega
      · have hd : decide (k < a1_1.length) = false := by simpa using hm
        go_quiet (fail)
        obtain ⟨Wt, hWt⟩ : ∃ Wt, Wt = Ws.drewN nq := ⟨_, rfl⟩
        rw [← hWt]
        have HOt := Lib.hid (show OwnI Wt W3.heap.size W3.heap.size (L.set k (ith a1_0 k)) from by rw [hWt]; exact HOs.out.gr ((Gr.refl _).drewN _).below)
        have HBt := Lib.hid (show Below W3.heap.size W3 Wt from by rw [hWt]; exact HBs.out.trans (((Gr.refl _).drewN _).below.mono HBs.out.size))
        clear hWt u1 q1
        go_wp2
        go_roundw
        case rel => exact ⟨k + 1, L.set k (ith a1_0 k), by omega, by go_num, HU.out.step hlt (upv_no (fun h => hm h.1)).symm hbd.out, HOt.out, HBt.out⟩
        case measure => simp [intOf]; omega
    · obtain rfl : k = a1_0.length := by omega
      have HL := Lib.hid hL
      obtain ⟨a, e, hE⟩ : ∃ a e, evalR a0 a1_0 = (a, e) := ⟨_, _, rfl⟩
      obtain ⟨b, f, hF⟩ : ∃ b f, evalR a0 L = (b, f) := ⟨_, _, rfl⟩
      obtain ⟨v, hV⟩ : ∃ v, coversB a0 a2 = v := ⟨_, rfl⟩
      have F1 := Lib.hid (show e = 0 → f = 0 → a ≤ b from fun he hf => by
        have k1 := (eval_good (p := a0) (ds := a1_0) (by rw [hE]; exact he)).1
        have k2 := (eval_good (p := a0) (ds := L) (by rw [hF]; exact hf)).1
        rw [hE] at k1
        rw [hF] at k2
        have k3 : a = _ := k1
        have k4 : b = _ := k2
        rw [k3, k4]
        exact val_mono (dv_le HU.out.2.1) (grows_n HGR.out))
      have F2 := Lib.hid (show e = 0 → 0 ≤ a ∧ (v = true → a2 ≤ a) from fun he => by
        have k1 := (eval_good (p := a0) (ds := a1_0) (by rw [hE]; exact he)).1
        rw [hE] at k1
        have k3 : a = _ := k1
        rw [k3]
        exact ⟨val_pos _ (grows_n HGR.out), fun hv => covers_val _ U0.out (by rw [hV]; exact hv)⟩)
      have RL := Lib.hid (show RdI wr wr.heap.size (some ⟨W3.heap.size, 0, none⟩) L from HO.out.rdi HU.out.2.2)
      have HE := Lib.hid hE
      have HF := Lib.hid hF
      have HV := Lib.hid hV
      have mL : L.length ≤ maxLen := by rw [hL]; exact m1_0
      clear hE hF hV
      replace Hr0 := Lib.hid (Hr0.out.below HB.out)
      replace Hr1_0 := Lib.hid (Hr1_0.out.below HB.out)
      replace B := Lib.hid (B.out.trans (HB.out.mono B.out.size))
      have HEV := Lib.hid (fun c W (h : RdI W W.heap.size (some ⟨W3.heap.size, 0, none⟩) L) (h0 : Rd W W.heap.size A0 a0) => (show Calls Try.prog 30 #[.slice A0 a0.length k0, .slice (some ⟨W3.heap.size, 0, none⟩) a1_0.length c] W (EvalIs W b f) from by have k := evals_is (eval_any A0 (some ⟨W3.heap.size, 0, none⟩) a0 L k0 c W h0 h m0 mL) HF.out; rwa [HL.out] at k))
      go_wp2_with fail
      refine (evals_is (eval_any _ _ _ _ _ _ _ Hr0.out Hr1_0.out m0 m1_0) HE.out).mono ?_
      rintro e' W4 ⟨rfl, g4⟩
      replace Hr0 := Lib.hid (Hr0.out.gr g4)
      replace RL := Lib.hid (RL.out.gr g4)
      replace B := Lib.hid (B.out.trans (g4.below.mono B.out.size))
      clear g4
      go_wp2_with fail
      refine (HEV.out _ _ RL.out Hr0.out).mono ?_
      rintro e' W5 ⟨rfl, g5⟩
      replace Hr0 := Lib.hid (Hr0.out.gr g5)
      replace B := Lib.hid (B.out.trans (g5.below.mono B.out.size))
      clear g5 RL HEV
      by_cases he : e = 0
      rotate_left
      · go_wp2
        go_ret
        exact ⟨rfl, B.out⟩
      subst he
      obtain ⟨p1, p2⟩ := F2.out rfl
      have q0 : decide (0 ≤ a) = true := by simpa using p1
      by_cases hf : f = 0
      · subst hf
        have p3 := F1.out rfl rfl
        have p4 : decide (b < a) = false := by simp; omega
        cases v with
        | false =>
          go_wp2_with fail
          refine (covers_is _ _ _ a2 false _ Hr0.out m0 HV.out).mono ?_
          rintro e' W6 ⟨rfl, g6⟩
          replace B := Lib.hid (B.out.trans (g6.below.mono B.out.size))
          go_wp2
          go_ret
          exact ⟨rfl, B.out⟩
        | true =>
          have p5 := p2 rfl
          have p6 : decide (a2 ≤ a) = true := by simpa using p5
          go_wp2_with fail
          refine (covers_is _ _ _ a2 true _ Hr0.out m0 HV.out).mono ?_
          rintro e' W6 ⟨rfl, g6⟩
          replace B := Lib.hid (B.out.trans (g6.below.mono B.out.size))
          go_wp2
          go_ret
          exact ⟨rfl, B.out⟩
      · cases v with
        | false =>
          go_wp2_with fail
          refine (covers_is _ _ _ a2 false _ Hr0.out m0 HV.out).mono ?_
          rintro e' W6 ⟨rfl, g6⟩
          replace B := Lib.hid (B.out.trans (g6.below.mono B.out.size))
          go_wp2
          go_ret
          exact ⟨rfl, B.out⟩
        | true =>
          have p5 := p2 rfl
          have p6 : decide (a2 ≤ a) = true := by simpa using p5
          go_wp2_with fail
          refine (covers_is _ _ _ a2 true _ Hr0.out m0 HV.out).mono ?_
          rintro e' W6 ⟨rfl, g6⟩
          replace B := Lib.hid (B.out.trans (g6.below.mono B.out.size))
          go_wp2
          go_ret
          exact ⟨rfl, B.out⟩

theorem cells_sides : Try.prog.cellsOf 40 = 2 := by kernel_rfl
set_option maxRecDepth 100000 in
set_option maxHeartbeats 1000000 in
theorem lifted (os : Os) (started : os.Started) (H : Type) (enc : TypeId × Value → H) :
    ReturnsInHanded {} Try.checked os 10 .any (Rows.polyGrowsSpec.pre6 enc Try.prog Try.f10 Rows.polyGrowsRow.domain false) (Rows.polyGrowsSpec.post enc Try.prog Try.f10 false true false false) := by
  refine returnsInHanded_of_change (C := Try.checked) lawOwn started (by kernel_rfl) Try.func10
    (ChangeSpec.witness6 (enc := enc) (C := Try.checked) false ⟨#[], #[.slice none 0 0, .agg #[.slice none 0 0, .slice none 0 0], .int .i64 0], []⟩ 8 (by kernel_rfl) (by kernel_rfl) (by kernel_rfl) (by kernel_rfl)) ?_
  intro W base args ds gs before hval0 hW hcnd _
  have hval : ∀ (j : Nat) t v, Try.f10.params[j]? = some t → args[j]? = some v → Value.okWide Try.prog W .any base t v := hval0
  have hW' := hW
  obtain ⟨p, q, hA0, hV, rfl, hfz, hnd⟩ := hW
  have hA : DataW.TrodAll enc Try.prog W 0 (fun _ => true) true Try.f10.params.toList args.toList ds p := hA0
  rw [Try.params10] at hA hval
  obtain ⟨rfl, rfl⟩ := trodVars_none hV
  simp only [List.append_nil] at hW'
  obtain ⟨v0, vs0, d0, ds0, p0, q0, hargs, rfl, hp, h0, z0⟩ := trodAll_cons hA
  obtain ⟨v1, vs1, d1, ds1, p1, q1, rfl, rfl, rfl, h1, z1⟩ := trodAll_cons z0
  obtain ⟨v2, vs2, d2, ds2, p2, q2, rfl, rfl, rfl, h2, z2⟩ := trodAll_cons z1
  obtain ⟨rfl, rfl, rfl⟩ := trodAll_nil z2
  obtain rfl : args = #[v0, v1, v2] := by cases args; simp_all
  have hback := fun (W' : World) (hg : Below W.heap.size W W') (sp : Nat → Bool) (hs : ∀ q ∈ p, sp q.block = true) => lawArgsB hg (sp := sp) (by kernel_rfl) hA (fun q hq => hW'.lt q hq) hs
  obtain ⟨x0, y0, k0', rfl⟩ := okWide_slice Try.underlying22 (hval 0 22 v0 rfl rfl)
  obtain ⟨fu0, hf0⟩ := h0
  obtain ⟨A0, a0, k0, e0, r0, m0⟩ := open_poly hf0
  simp [Value.cells] at e0
  obtain ⟨rfl, rfl, rfl⟩ := e0
  obtain ⟨c1_0, c1_1, y1_0, y1_1, mm1, rfl, _, _, hy1_0, hy1_1⟩ := open_agg2 Try.underlying40 (by kernel_rfl) cells_sides (hval 1 40 v1 rfl rfl) h1
  obtain ⟨A1_0, a1_0, k1_0, e1_0, r1_0, m1_0⟩ := open_nums hy1_0
  simp at e1_0
  subst e1_0
  obtain ⟨A1_1, a1_1, k1_1, e1_1, r1_1, m1_1⟩ := open_nums hy1_1
  simp at e1_1
  subst e1_1
  obtain ⟨a2, rfl, _, _, w2⟩ := open_int Try.underlying2 (hval 2 2 v2 rfl rfl) h2
  refine (walk _ _ _ _ _ _ _ _ _ a2 W r0 m0 r1_0 m1_0 r1_1 m1_1 w2).mono fun e W' ⟨he, hg⟩ => ?_
  subst he
  exact ⟨_, rfl, lawPost (pa := p) (pv := []) hW' hg (List.append_nil _).symm (fun _ _ _ => (trodAll_cons_mk (shut_bool Try.underlying4 _) trodAll_mk0)) (fun sp hs => hback W' hg sp hs) (fun _ _ => rfl)
    (ok_one (by kernel_rfl) rfl (okWide_bool_mk Try.underlying4 _))⟩

theorem over : Rows.polyGrowsRow.holds Try.pinned (OpenSpec.ofChange Rows.polyGrowsSpec) :=
  OpenClaim.holds_of_wide 10 Try.f10 rfl rfl rfl rfl rfl rfl rfl ⟨rfl, rfl, rfl, rfl, rfl⟩ rfl rfl rfl rfl rfl (by kernel_rfl) Try.func10 (by kernel_rfl)
    (of_decide_eq_true (by kernel_rfl)) (by unfold Func.isWrapper; first | (rw [if_pos (by decide +kernel)]; kernel_rfl) | (rw [if_neg (by decide +kernel)]; exact ⟨rfl, rfl⟩))
    (fun os started H enc _ => lifted os started H enc)

/-- The statement. -/
theorem proved : Rows.PolyGrowsSaid := over
end Go.Proofs.Ytogflbpphacokaa.polyGrows
