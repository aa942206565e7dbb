/- Layer 4, put together: ParZf, ParZg, ParZh. -/
import Derived.Deep.LoopGhost
import Derived.Test.YthdognmppbckbaaDoorZPt
import Derived.Test.YthdognmppbckbaaDoorZPr
import Derived.Test.YthdognmppbckbaaDoorZPs
/- The document's operand: numbers. Written by gen_zf.py. -/
namespace Go.Proofs.YthdognmppbckbaaDoor
open Go.RowKit
set_option linter.unusedVariables false
theorem below_alloc_drewN (w : World) (o : Obj) (j : Nat) : Below w.heap.size w ((w.drewN j).alloc o) := (below_drewN (Below.refl _ _) (Nat.le_refl _)).alloc (Nat.le_refl _) o
/-- What the loop over numbers holds: K tokens are behind it. -/
structure NJ (w wx : World) (R g : Nat) (T : List Tk) (n c I : Nat) (E : Int) (d : Nat) (Q : Nat) (a : Int) (K k : Nat) (A : Option Addr) (ck : Nat) (ns : List Int) : Prop where
  rz : RZ wx R g T n c K E d 0 0
  fr : Fr (fun k => k = R) w wx
  box : wx.heap[Q]? = some (.cells #[.int .i64 1, .int .i64 a, .int .u8 0, .string ⟨#[]⟩, .slice A k ck] 52 (0, 0))
  hQ : w.heap.size ≤ Q
  own : wx.ownsRow (Q + 1) 2 1 (.slice A k ck) k (nints ns)
  hl : ns.length = k
  hK : K = I + k
  hKn : K ≤ n
  num : numsOf (tl T E I) = ns ++ numsOf (tl T E K)
  past : pastNums (tl T E I) = pastNums (tl T E K)
theorem NJ.read {w wx : World} {R g : Nat} {T : List Tk} {n c I : Nat} {E : Int} {d Q : Nat} {a : Int} {K k : Nat} {A : Option Addr} {ck : Nat} {ns : List Int} (h : NJ w wx R g T n c I E d Q a K k A ck ns) : RdN wx (fun j => j < wx.heap.size) A ns := by
  intro hl
  obtain ⟨q, cap, e, hg1, hg2⟩ := h.own.form (by rw [← h.hl]; exact hl)
  injection e with e1 e2 e3
  subst e1
  subst e3
  obtain ⟨cur, hcur⟩ := row_type h.own (k := q) rfl
  refine ⟨q, 0, rfl, ⟨hg2, cur, (0, 0), hcur⟩, fun i hi => ?_⟩
  rw [Nat.zero_add, World.ownsRow.cellAt h.own i (by rw [← h.hl]; omega)]
  unfold nints
  rw [List.getElem?_map, List.getD_eq_getElem?_getD, List.getElem?_eq_getElem hi]
  rfl
theorem NJ.step {w wx : World} {R g : Nat} {T : List Tk} {n c I : Nat} {E : Int} {d Q : Nat} {a : Int} {K k : Nat} {A : Option Addr} {ck : Nat} {ns : List Int} (h : NJ w wx R g T n c I E d Q a K k A ck ns) (hR : R < w.heap.size) (hg : g < w.heap.size) (hKn : K < n) (hk2 : (T.getD K default).k = 2) {w4 : World} {x : Obj} {q cap : Nat}
    (hgrow : ((wx.alloc x).drew).grownBy w4 (Value.slice A k ck).ownBlock) (hown : w4.ownsRow (Q + 1) 2 1 (.slice (some ⟨q, 0, none⟩) (k + 1) cap) (k + 1) (nints ns ++ [.int .i64 (T.getD K default).n])) (v : Int) (hv : v = ((K + 1 : Nat) : Int)) :
    NJ w ((w4.setCell ⟨Q, 4, none⟩ (.slice (some ⟨q, 0, none⟩) (k + 1) cap)).setCell ⟨R, 1, none⟩ (.int .i64 v)) R g T n c I E d Q a (K + 1) (k + 1) (some ⟨q, 0, none⟩) cap (ns ++ [(T.getD K default).n]) := by
  have hQ := h.hQ
  have hb0 : ∀ j, (Value.slice A k ck).ownBlock = some j → Q + 1 ≤ j := fun j hj => (row_base h.own hj).1
  have hqq := row_base hown (k := q) rfl
  have hxs : (wx.alloc x).drew.heap.size = wx.heap.size + 1 := by simp
  have hbx : Below (Q + 1) wx w4 := (((Below.refl (Q + 1) wx).alloc (heap_lt h.box) x).drew).grown hgrow (by have := heap_lt h.box; rw [hxs]; omega) hb0
  have hbw : Below w.heap.size wx w4 := hbx.mono (by omega)
  have hQ4 : w4.heap[Q]? = _ := (hbx.block Q (by omega)).trans h.box
  have hz1 := h.rz.at hbw hR hg
  have hz2 := (hz1.far (b := Q) (by omega) (by omega) 4 (.slice (some ⟨q, 0, none⟩) (k + 1) cap)).setI (K + 1) v hv
  have hlen : K < T.length := by rw [h.rz.hn]; exact hKn
  refine ⟨hz2, ((h.fr.up hbw).set (b := Q) (.inr hQ) 4 _).setR 1 _, ?_, hQ, ?_, by rw [List.length_append, h.hl]; rfl, by have := h.hK; omega, hKn, ?_, ?_⟩
  · rw [Fr.set.heap_set_other (by omega), heap_setCell_same _ _ _ _ _ _ hQ4]; rfl
  · have e : nints (ns ++ [(T.getD K default).n]) = nints ns ++ [.int .i64 (T.getD K default).n] := by simp [nints]
    rw [e]
    exact row_keep hown (fun j hj _ => (by
      have h1 : Q + 1 ≤ j := (row_base hown hj).1
      rw [Fr.set.heap_set_other (by omega), Fr.set.heap_set_other (by omega)])) (Nat.le_refl _)
  · rw [h.num, tl_cons hlen, nn_num hk2]; simp
  · rw [h.past, tl_cons hlen, pn_num hk2]
theorem NJ.cells {w wx : World} {R g : Nat} {T : List Tk} {n c I : Nat} {E : Int} {d Q : Nat} {a : Int} {K k : Nat} {A : Option Addr} {ck : Nat} {ns : List Int} (h : NJ w wx R g T n c I E d Q a K k A ck ns) : wx.cell? ⟨Q, 0, none⟩ = some (.int .i64 1) ∧ wx.cell? ⟨Q, 1, none⟩ = some (.int .i64 a) ∧ wx.cell? ⟨Q, 2, none⟩ = some (.int .u8 0) ∧ wx.cell? ⟨Q, 3, none⟩ = some (.string ⟨#[]⟩) ∧ wx.cell? ⟨Q, 4, none⟩ = some (.slice A k ck) := by
  refine ⟨?_, ?_, ?_, ?_, ?_⟩ <;> · rw [cell_of_row _ _ _ _ _ _ h.box]; rfl
set_option maxRecDepth 100000 in
set_option maxHeartbeats 6400000 in
theorem opd_d (w : World) (R g n c I : Nat) (T : List Tk) (E : Int) (d : Nat) (h : RZ w R g T n c I E d 0 0) (hlg : g < w.heap.size) (hn7 : n ≤ 1000000) (hT : LT T) (hId : I + d ≤ n + 32) (hIn : I ≤ n) (hd9 : d ≤ 32) (hI : I < n) (hk : (T.getD I default).k = 2) : Calls Tryd.prog 84 #[.pointer (some ⟨R, 0, none⟩)] w (ExAns w R g T n c I E d (.ok [⟨1, (T.getD I default).a, 0, [], numsOf (tl T E I)⟩] (pastNums (tl T E I)))) := by
  have hRl := h.lt
  have Z0 := Lib.hid h
  have F0 := Lib.hid (Fr.refl (fun k => k = R) w)
  have HB := Lib.hid (And.intro hlg (And.intro hId (And.intro hIn h.hn)))
  have HI40 := Lib.hid (fun (W : World) (hW : RZ W R g T n c I E d 0 0) => (show Calls Tryd.prog 48 #[.pointer (some ⟨R, 0, none⟩), .string ⟨#[40]⟩] W (fun e w' => e = .returned (.bool false) ∧ ∃ j, w' = W.drewN j) from is_any W R g n c I T E d 0 0 hW [40] false (fun a b => hT.kw _ (getD_mem (by rw [h.hn]; exact a)) (by rw [b]; decide)) (by symm; exact decide_eq_false (fun a => by rw [hT.k2 _ (getD_mem (by rw [h.hn]; exact hI)) hk] at a; exact absurd a.2 (by decide)))))
  obtain ⟨t, ht⟩ : ∃ t, t = T.getD I default := ⟨_, rfl⟩
  rw [← ht] at hk ⊢
  have HTT := Lib.hid ht
  have hd : decide ((I : Int) < (n : Int)) = true := by simp; omega
  have hk2 : (t.k == 2) = true := by rw [hk]; rfl
  have q1 := idxTo g n c I hI
  have HK := Lib.hid hk
  clear h hlg hId hIn hT hk ht
  go_enter Tryd.func84, Tryd.ntmps84
  go_wp2_with fail
  refine (HI40.out _ Z0.out).mono ?_
  rintro e w1 ⟨rfl, j1, e1⟩
  have Z1 := Lib.hid (show RZ w1 R g T n c I E d 0 0 by rw [e1]; exact Z0.out.keep (below_drewN (Below.refl _ _) (Nat.le_refl _)))
  have F1 := Lib.hid (show Fr (fun k => k = R) w w1 by rw [e1]; exact F0.out.drewN _)
  clear e1
  obtain ⟨c0, c1, -, -, -, -⟩ := Z1.out.c0
  have u0 := fun j => (show (w1.drewN j).cell? ⟨R, 0, none⟩ = some (.slice (some ⟨g, 0, none⟩) n c) from c0)
  have u1 := fun j => (show (w1.drewN j).cell? ⟨R, 1, none⟩ = some (.int .i64 I) from c1)
  obtain ⟨k0, k1, k2, -⟩ := Z1.out.tok I hI
  rw [← HTT.out] at k0 k1 k2
  have v0 := fun j => (show (w1.drewN j).cell? ⟨g, I * 4, none⟩ = some (.int .i64 t.k) from k0)
  have v1 := fun j => (show (w1.drewN j).cell? ⟨g, I * 4 + 1, none⟩ = some (.int .i64 t.a) from k1)
  have v2 := fun j => (show (w1.drewN j).cell? ⟨g, I * 4 + 2, none⟩ = some (.string (bs t.w)) from k2)
  clear c0 c1 k0 k1 k2
  go_wp2
  go_quiet (fail)
  clear u0 u1 v0 v1 v2
  obtain ⟨w6, hw6⟩ : ∃ w6, w6 = w1.drewN nq := ⟨_, rfl⟩
  rw [← hw6]
  have Z6 := Lib.hid (show RZ w6 R g T n c I E d 0 0 by rw [hw6]; exact Z1.out.keep (below_drewN (Below.refl _ _) (Nat.le_refl _)))
  have F6 := Lib.hid (show Fr (fun k => k = R) w w6 by rw [hw6]; exact F1.out.drewN _)
  clear hw6
  obtain ⟨c0, c1, -, -, -, -⟩ := Z6.out.c0
  have u0 := fun j => (show (w6.drewN j).cell? ⟨R, 0, none⟩ = some (.slice (some ⟨g, 0, none⟩) n c) from c0)
  have u1 := fun j => (show (w6.drewN j).cell? ⟨R, 1, none⟩ = some (.int .i64 I) from c1)
  obtain ⟨k0, k1, k2, -⟩ := Z6.out.tok I hI
  rw [← HTT.out] at k0 k1 k2
  have v0 := fun j => (show (w6.drewN j).cell? ⟨g, I * 4, none⟩ = some (.int .i64 t.k) from k0)
  have v1 := fun j => (show (w6.drewN j).cell? ⟨g, I * 4 + 1, none⟩ = some (.int .i64 t.a) from k1)
  have v2 := fun j => (show (w6.drewN j).cell? ⟨g, I * 4 + 2, none⟩ = some (.string (bs t.w)) from k2)
  have hR6 := Z6.out.lt
  have hg6 := Z6.out.lg
  go_wp2
  go_region
  all_goals
    obtain ⟨w7, hw7⟩ : ∃ w7, w7 = (w6.alloc (.cells #[.int .i64 1, .int .i64 t.a, .int .u8 0, .string ⟨#[]⟩, .slice none 0 0] 52)).drew := ⟨_, rfl⟩
    rw [← hw7]
    obtain ⟨Q, hQ⟩ : ∃ Q, Q = w6.heap.size := ⟨_, rfl⟩
    rw [← hQ]
    have HNJ := Lib.hid (show NJ w w7 R g T n c I E d Q t.a I 0 none 0 [] by
      rw [hw7, hQ]
      exact ⟨Z6.out.keep (up_drew w6 _), F6.out.trans (below_fr (up_drew w6 _) _), heap_alloc_new w6 _, F6.out.size, World.ownsRow_nil _ _ _ _, rfl, rfl, by omega, rfl, rfl⟩)
    have hRw := hRl
    clear hw7 hQ u0 u1 v0 v1 v2 c0 c1 k0 k1 k2 hd hk2 q1
    obtain ⟨i1, hi, hz0, hz1, hz2⟩ := info_parts infoN
    have HI1 := Lib.hid (And.intro hi (And.intro hz0 (And.intro hz1 hz2)))
    clear hi hz0 hz1 hz2
    go_wp2
    go_loopg [] (n - I) (fun gk wx => ∃ K k A ck ns, K + gk = n ∧ k ≤ K ∧ Hid (NJ w wx R g T n c I E d Q t.a K k A ck ns))
    case atStart => exact ⟨I, 0, none, 0, [], by omega, by omega, HNJ⟩
    case round =>
      obtain ⟨K, k, A, ck, ns, hKg, hkK, HV⟩ := hrel
      obtain ⟨c0, c1, -, -, -, -⟩ := HV.out.rz.c0
      have u0 := fun j => (show (wr.drewN j).cell? ⟨R, 0, none⟩ = some (.slice (some ⟨g, 0, none⟩) n c) from c0)
      have u1 := fun j => (show (wr.drewN j).cell? ⟨R, 1, none⟩ = some (.int .i64 K) from c1)
      obtain ⟨b0, b1, b2, b3, b4⟩ := HV.out.cells
      have hQr := heap_lt HV.out.box
      have hRr := HV.out.rz.lt
      have hgr := HV.out.rz.lg
      have hQw := HV.out.hQ
      by_cases hlt : K < n
      · obtain ⟨s, hs⟩ : ∃ s, s = T.getD K default := ⟨_, rfl⟩
        have HSS := Lib.hid hs
        obtain ⟨k0, -, -, k3⟩ := HV.out.rz.tok K hlt
        rw [← hs] at k0 k3
        have v0 := fun j => (show (wr.drewN j).cell? ⟨g, K * 4, none⟩ = some (.int .i64 s.k) from k0)
        have v3 := fun j => (show (wr.drewN j).cell? ⟨g, K * 4 + 3, none⟩ = some (.int .i64 s.n) from k3)
        have hd : decide ((K : Int) < (n : Int)) = true := by simp; omega
        have q1 := idxTo g n c K hlt
        by_cases hs2 : s.k = 2
        · have hk2 : (s.k == 2) = true := by rw [hs2]; rfl
          have HS2 := Lib.hid hs2
          clear hs hs2
          cases gk with
          | zero => exact absurd hlt (by omega)
          | succ gk =>
          have h63 : k + 1 ≤ maxLen := by unfold maxLen; omega
          have h8 : (k + 1) * 8 ≤ 140737488355328 := by omega
          have nQ : (Value.slice A k ck).ownBlock ≠ some Q := fun e => by have := (row_base HV.out.own e).1; omega
          have nR : (Value.slice A k ck).ownBlock ≠ some R := fun e => by have := (row_base HV.out.own e).1; have := HB.out; omega
          have f4 := frozen_of_row _ _ 4 _ _ HV.out.box
          go_wp2
          go_quiet (fail)
          obtain ⟨wy, hwy⟩ : ∃ wy, wy = wr.drewN nq := ⟨_, rfl⟩
          have HV2 := Lib.hid (show NJ w wy R g T n c I E d Q t.a K k A ck ns by rw [hwy]; exact ⟨HV.out.rz.keep (below_drewN (Below.refl _ _) (Nat.le_refl _)), HV.out.fr.drewN _, HV.out.box, HV.out.hQ, row_keep HV.out.own (fun _ _ _ => rfl) (Nat.le_refl _), HV.out.hl, HV.out.hK, HV.out.hKn, HV.out.num, HV.out.past⟩)
          rw [← hwy]
          clear hwy u0 u1 v0 v3 b0 b1 b2 b3 b4 c0 c1 k0 k3 f4 hQr hRr hgr
          obtain ⟨c0, c1, -, -, -, -⟩ := HV2.out.rz.c0
          obtain ⟨-, -, -, k3⟩ := HV2.out.rz.tok K hlt
          rw [← HSS.out] at k3
          obtain ⟨-, -, -, -, b4⟩ := HV2.out.cells
          have f4 := frozen_of_row _ _ 4 _ _ HV2.out.box
          have hQr := heap_lt HV2.out.box
          have hRr := HV2.out.rz.lt
          have hgr := HV2.out.rz.lg
          go_wp2
          go_region_law ((refine step_append_lies _ (by rfl) _ _ _ (by rfl) (Q + 1) 2 i1 _ 1 8 Tryd.underlying50 HI1.out.1 HI1.out.2.1 HI1.out.2.2.1 HI1.out.2.2.2 rfl (by omega) (.slice A k ck) k (nints ns) (by rfl) ((HV2.out.own.alloc _).drew) ⟨wy.heap.size, 0, none⟩ 1 1 [.int .i64 s.n] (by rfl) (by rfl) (World.news_of_block (cs := #[.int .i64 s.n]) (t := 2) (fr := (0, 0)) (heap_alloc_new wy _)) (by intro u hu; simp at hu; subst hu; rfl) (by omega) h63 h8 (by simp; omega) (wy.heap.size + 1) (by simp) ?_; intro q cap w4 hown4 hgrow hat hlt4; have hQ4 := ((hgrow.block Q (by simp; omega) (Ne.symm nQ)).trans (heap_alloc_old wy _ hQr)).trans HV2.out.box; have y4 : w4.cell? ⟨Q, 4, none⟩ = some (.slice A k ck) := (by rw [cell_of_row _ _ _ _ _ _ hQ4]; rfl); have y5 : w4.frozen? ⟨Q, 4, none⟩ = false := frozen_of_row _ _ _ _ _ hQ4))
          all_goals
            have hR4 := ((hgrow.block R (by simp; omega) (Ne.symm nR)).trans (heap_alloc_old wy _ hRr)).trans HV2.out.rz.blk
            have y6 : w4.cell? ⟨R, 1, none⟩ = some (.int .i64 K) := by rw [cell_of_row _ _ _ _ _ _ hR4]; rfl
            have y7 : w4.frozen? ⟨R, 1, none⟩ = false := frozen_of_row _ _ _ _ _ hR4
            have hRQ : ¬ R = Q := by omega
            have hQR : ¬ Q = R := by omega
            have hRl4 := heap_lt hR4
            have hQl4 := heap_lt hQ4
            rw [HSS.out] at hown4
            have HN := Lib.hid (HV2.out.step hRw HB.out.1 hlt (by rw [← HSS.out]; exact HS2.out) hgrow hown4 ((K : Int) + 1) (by omega))
            clear hgrow hown4 hat hQ4 hR4 c0 c1 k3 b4 f4
            go_wp2
            go_roundg gk
            case measure => omega
            case rel => exact ⟨K + 1, k + 1, _, cap, _, by omega, by omega, HN⟩
        · have hk2 : (s.k == 2) = false := by simpa using hs2
          have HE := Lib.hid (show numsOf (tl T E I) = ns ∧ pastNums (tl T E I) = tl T E K by
            have hl : K < T.length := by rw [HV.out.rz.hn]; exact hlt
            rw [HV.out.num, HV.out.past, tl_cons hl, nn_not (by rw [← hs]; exact hs2), pn_not (by rw [← hs]; exact hs2), List.append_nil]
            exact ⟨rfl, rfl⟩)
          clear hs hs2
          go_wp2
          go_quiet (fail)
          clear u0 u1 c0 c1
          go_wp2
          refine bodyPost_ret (v := .slice (some ⟨wr.heap.size, 0, none⟩) 1 1) (by simp [results, Tryd.results84, go_sem]) rfl ?_
          rw [HE.out.1, HE.out.2]
          have hnk := HV.out.hl
          have hKI := HV.out.hK
          have hk1 : I < K := by
            rcases Nat.eq_zero_or_pos k with h0 | h0
            · exfalso
              have hl : I < T.length := by rw [HV.out.rz.hn]; exact hI
              have h1 := HE.out.1
              rw [tl_cons hl, ← HTT.out, nn_num HK.out] at h1
              rw [← h1] at hnk
              simp at hnk
              omega
            · omega
          have hKn := HV.out.hKn
          refine ⟨some ⟨wr.heap.size, 0, none⟩, 1, 1, [⟨1, t.a, 0, [], ns⟩], rfl, OI.one ⟨⟨1, t.a, 0, [], ns⟩, A, ck⟩ ?_ (Nat.le_trans HV.out.hQ (Nat.le_of_lt hQr)) (rdN_below HV.out.read ((Below.refl _ _).trans (below_alloc_drewN _ _ _))), HV.out.fr.trans (below_fr (below_alloc_drewN _ _ _) _), by omega, K, 0, 0, HV.out.rz.keep (below_alloc_drewN _ _ _), by omega, rfl, rfl, rfl, hk1, hKn, rfl, by omega⟩
          have hx := heap_alloc_new wr (.cells #[.int .i64 1, .int .i64 t.a, .int .u8 0, .string ⟨#[]⟩, .slice A k ck] 52)
          simp only [IM.cells, hnk]
          exact hx
      · have hd : decide ((K : Int) < (n : Int)) = false := by simp; omega
        have HE := Lib.hid (show numsOf (tl T E I) = ns ∧ pastNums (tl T E I) = tl T E K by
          have hl : T.length ≤ K := by rw [HV.out.rz.hn]; omega
          rw [HV.out.num, HV.out.past, tl_end hl, nn_not (by simp), pn_not (by simp), List.append_nil]
          exact ⟨rfl, rfl⟩)
        go_wp2
        go_quiet (fail)
        clear u0 u1 c0 c1
        go_wp2
        refine bodyPost_ret (v := .slice (some ⟨wr.heap.size, 0, none⟩) 1 1) (by simp [results, Tryd.results84, go_sem]) rfl ?_
        rw [HE.out.1, HE.out.2]
        have hnk := HV.out.hl
        have hKI := HV.out.hK
        have hk1 : I < K := by
          rcases Nat.eq_zero_or_pos k with h0 | h0
          · exfalso
            have hl : I < T.length := by rw [HV.out.rz.hn]; exact hI
            have h1 := HE.out.1
            rw [tl_cons hl, ← HTT.out, nn_num HK.out] at h1
            rw [← h1] at hnk
            simp at hnk
            omega
          · omega
        have hKn := HV.out.hKn
        refine ⟨some ⟨wr.heap.size, 0, none⟩, 1, 1, [⟨1, t.a, 0, [], ns⟩], rfl, OI.one ⟨⟨1, t.a, 0, [], ns⟩, A, ck⟩ ?_ (Nat.le_trans HV.out.hQ (Nat.le_of_lt hQr)) (rdN_below HV.out.read ((Below.refl _ _).trans (below_alloc_drewN _ _ _))), HV.out.fr.trans (below_fr (below_alloc_drewN _ _ _) _), by omega, K, 0, 0, HV.out.rz.keep (below_alloc_drewN _ _ _), by omega, rfl, rfl, rfl, hk1, hKn, rfl, by omega⟩
        have hx := heap_alloc_new wr (.cells #[.int .i64 1, .int .i64 t.a, .int .u8 0, .string ⟨#[]⟩, .slice A k ck] 52)
        simp only [IM.cells, hnk]
        exact hx
end Go.Proofs.YthdognmppbckbaaDoor
/- The document's operand and Expr: contracts. -/
namespace Go.Proofs.YthdognmppbckbaaDoor
open Go.RowKit
set_option linter.unusedVariables false
def ropdT (f : List Tk → Rx) (d : Nat) : List Tk → Rx
  | [] => .err 0 0
  | t :: r => ropd f d t r
theorem suf_tl {T rest : List Tk} {E : Int} {I : Nat} (h : rest <:+ tl T E I) (h0 : 0 < rest.length) (hI : I ≤ T.length) : ∃ J, I ≤ J ∧ J ≤ T.length ∧ rest = tl T E J := by
  have hl := h.length_le
  rw [tl_len] at hl
  refine ⟨T.length + 1 - rest.length, by omega, by omega, ?_⟩
  have h1 := List.suffix_iff_eq_drop.1 h
  rw [tl_len] at h1
  rw [h1]
  unfold tl
  rw [List.drop_append_of_le_length (by rw [List.length_drop]; omega), List.drop_drop]
  congr 2
  rw [List.length_append, List.length_drop]
  simp only [List.length_cons, List.length_nil]
  omega
theorem Rest.tl {T rest : List Tk} {E : Int} {I : Nat} (h : Rest (tl T E I) rest) (hI : I ≤ T.length) : ∃ J, I ≤ J ∧ J ≤ T.length ∧ rest = Go.Proofs.YthdognmppbckbaaDoor.tl T E J := suf_tl h.suf h.ends.pos hI
theorem opens_rep (d : Nat) : opens (List.replicate d none) = d := by
  induction d with
  | zero => rfl
  | succ d ih => rw [List.replicate_succ]; simp only [opens]; omega
theorem rx_rest {T : List Tk} {E : Int} {I k d n : Nat} (hn : T.length = n) (hT : LT T) (hI : I ≤ n) (hk : n - I + 1 ≤ k) {its : List It} {rest : List Tk} (h : rx k d (tl T E I) = .ok its rest) : ∃ J, I ≤ J ∧ J ≤ n ∧ rest = tl T E J := by
  have h1 := rx_ok k d (tl T E I) [] (List.replicate d none) (by rw [tl_len]; omega) (tl_ends _ _ _) (hT.e4 _ _) (opens_rep d)
  rw [h] at h1
  obtain ⟨J, a, b, c⟩ := h1.2.tl (by omega)
  exact ⟨J, a, by omega, c⟩
theorem ropd_rest {T : List Tk} {E : Int} {I k d n : Nat} (hn : T.length = n) (hT : LT T) (hI : I ≤ n) (hk : n - I ≤ k) (hv : ¬ (I < n ∧ vb (T.getD I default).w = true)) {its : List It} {rest : List Tk} (h : ropdT (rx k (d + 1)) d (tl T E I) = .ok its rest) : ∃ J, I < J ∧ J ≤ n ∧ rest = tl T E J := by
  rcases Nat.lt_or_ge I n with hlt | hge
  · rw [tl_cons (by omega)] at h
    have h1 := opd_ok (n := k) (d := d) (fun ts l s a b c e => rx_ok k (d + 1) ts l s a b c e) (T.getD I default) (tl T E (I + 1)) [] (List.replicate d none) (by rw [tl_len]; omega) (by rw [← tl_cons (by omega)]; exact tl_ends _ _ _) (by rw [← tl_cons (by omega)]; exact hT.e4 _ _) (fun e => hv ⟨hlt, e⟩) (opens_rep d)
    rw [show ropdT (rx k (d + 1)) d (T.getD I default :: tl T E (I + 1)) = ropd (rx k (d + 1)) d (T.getD I default) (tl T E (I + 1)) from rfl] at h
    rw [h] at h1
    obtain ⟨J, a, b, c⟩ := suf_tl h1.2.2 h1.2.1.pos (by omega)
    exact ⟨J, a, by omega, c⟩
  · rw [tl_end (by omega)] at h
    simp [ropdT, ropd, name_nil] at h
set_option maxHeartbeats 1000000 in
theorem operand_any (w : World) (R g n c I : Nat) (T : List Tk) (E : Int) (d : Nat) (h : RZ w R g T n c I E d 0 0) (hlg : g < w.heap.size) (hn7 : n ≤ 1000000) (hT : LT T) (hkk : ∀ t ∈ T, t.k = 1 ∨ t.k = 2 ∨ t.k = 3) (hIn : I ≤ n) (hd9 : d ≤ 32) (k : Nat) (hk : n - I ≤ k) (hv : ¬ (I < n ∧ vb (T.getD I default).w = true))
    (HX : ∀ W : World, d < 32 → I < n → RZ W R g T n c (I + 1) E ((d + 1 : Nat) : Int) 0 0 → g < W.heap.size → Calls Tryd.prog 70 #[.pointer (some ⟨R, 0, none⟩)] W (ExAns W R g T n c (I + 1) E (d + 1) (rx k (d + 1) (tl T E (I + 1))))) :
    Calls Tryd.prog 84 #[.pointer (some ⟨R, 0, none⟩)] w (ExAns w R g T n c I E d (ropdT (rx k (d + 1)) d (tl T E I))) := by
  have hnn := h.hn
  have hId : I + d ≤ n + 32 := by omega
  rcases Nat.lt_or_ge I n with hI | hge
  · have hmem : T.getD I default ∈ T := getD_mem (by omega)
    rw [tl_cons (by omega)]
    show Calls _ _ _ _ (ExAns w R g T n c I E d (ropd (rx k (d + 1)) d (T.getD I default) (tl T E (I + 1))))
    unfold ropd
    by_cases h2 : (T.getD I default).k = 2
    · rw [if_pos h2]
      have := opd_d w R g n c I T E d h hlg hn7 hT hId hIn hd9 hI h2
      rw [tl_cons (by omega), nn_num h2, pn_num h2] at this
      exact this
    rw [if_neg h2]
    by_cases hnm : nameB (T.getD I default).w = true
    · rw [if_pos hnm]
      exact opd_e w R g n c I T E d h hlg hn7 hT hId hIn hd9 hI (hT.name hmem hnm) hnm
    rw [if_neg hnm]
    by_cases h40 : (T.getD I default).w = [40]
    · rw [if_pos h40]
      by_cases hd : d = 32
      · rw [if_pos hd]
        exact opd_a w R g n c I T E d h hlg hn7 hT hId hIn hI h40 hd
      rw [if_neg hd]
      have hd32 : d < 32 := by omega
      have HX1 := fun W => HX W hd32 hI
      cases hx : rx k (d + 1) (tl T E (I + 1)) with
      | err a e =>
        rw [hx] at HX1
        exact opd_b1 a e w R g n c I T E d h hlg hn7 hT hId hIn hI h40 hd32 HX1
      | ok its rest =>
        obtain ⟨J, hJ1, hJ2, rfl⟩ := rx_rest hnn hT (by omega) (by omega) hx
        rw [hx] at HX1
        rcases Nat.lt_or_ge J n with hJn | hJn
        · rw [tl_cons (by omega)]
          show Calls _ _ _ _ (ExAns w R g T n c I E d (if (T.getD J default).w = [41] then _ else _))
          by_cases h41 : (T.getD J default).w = [41]
          · rw [if_pos h41]
            exact opd_b3 its J w R g n c I T E d h hlg hn7 hT hJ2 hId hIn hI h40 hd32 HX1 hJn h41
          · rw [if_neg h41]
            have := opd_b2 its J w R g n c I T E d h hlg hn7 hT hJ2 hId hIn hI h40 hd32 HX1 (fun a => h41 a.2)
            unfold placeR at this
            rw [if_pos (by omega)] at this
            exact this
        · rw [tl_end (by omega)]
          show Calls _ _ _ _ (ExAns w R g T n c I E d (if ([] : List UInt8) = [41] then _ else _))
          rw [if_neg (by decide)]
          have := opd_b2 its J w R g n c I T E d h hlg hn7 hT hJ2 hId hIn hI h40 hd32 HX1 (fun a => by omega)
          unfold placeR at this
          rw [if_neg (by omega)] at this
          exact this
    rw [if_neg h40]
    by_cases h1 : (T.getD I default).k = 1
    · rw [if_pos h1]
      have hvf : vb (T.getD I default).w = false := by
        cases e : vb (T.getD I default).w with
        | false => rfl
        | true => exact (hv ⟨hI, e⟩).elim
      rcases word_kw (hT.k1 _ hmem h1) hvf (by simpa using hnm) with hw | hw
      · exact opd_fi w R g n c I T E d h hlg hn7 hT hId hIn hI h1 hw
      · exact opd_fo w R g n c I T E d h hlg hn7 hT hId hIn hI h1 hw
    rw [if_neg h1]
    have h3 : (T.getD I default).k = 3 := by rcases hkk _ hmem with h4 | h4 | h4; exact (h1 h4).elim; exact (h2 h4).elim; exact h4
    have hwf := hT.k3 _ hmem h3
    exact opd_g1 w R g n c I T E d h hlg hn7 hT hId hIn hI h3 h40 (fun e => by rw [e] at hwf; exact absurd hwf (by decide)) (fun e => by rw [e] at hwf; exact absurd hwf (by decide))
  · have hI : I = n := by omega
    rw [tl_end (by omega)]
    have : ropdT (rx k (d + 1)) d [⟨4, E, [], 0⟩] = .err E 42 := by simp [ropdT, ropd, name_nil]
    rw [this]
    exact opd_g0 w R g n c I T E d h hlg hn7 hT hId hIn hI
theorem rx_tl {T : List Tk} {E : Int} {I k d n : Nat} (hn : T.length = n) (hv : ¬ (I < n ∧ vb (T.getD I default).w = true)) : rx (k + 1) d (tl T E I) = match ropdT (rx k (d + 1)) d (tl T E I) with | .err a e => .err a e | .ok left rest => rtail (rx k d) left rest := by
  rcases Nat.lt_or_ge I n with hI | hge
  · rw [tl_cons (by omega), rx_cons, if_neg fun e => hv ⟨hI, e⟩]; rfl
  · rw [tl_end (by omega), rx_cons, if_neg (by rw [vb_nil]; decide)]; rfl
set_option maxHeartbeats 1000000 in
theorem expr04_any (R g n c : Nat) (T : List Tk) (E : Int) (hn7 : n ≤ 1000000) (hnn : T.length = n) (hT : LT T) (hkk : ∀ t ∈ T, t.k = 1 ∨ t.k = 2 ∨ t.k = 3) : ∀ (k d I : Nat) (w : World), n - I + 1 ≤ k → d ≤ 32 → I ≤ n → RZ w R g T n c I E d 0 0 → g < w.heap.size →
    Calls Tryd.prog 70 #[.pointer (some ⟨R, 0, none⟩)] w (ExAns w R g T n c I E d (rx k d (tl T E I))) := by
  intro k
  induction k with
  | zero => intro d I w hk; omega
  | succ k ih =>
    intro d I w hk hd9 hIn h hlg
    have hId : I + d ≤ n + 32 := by omega
    have HX : ∀ (W : World) (J : Nat), I < J → J ≤ n → RZ W R g T n c J E d 0 0 → g < W.heap.size → Calls Tryd.prog 70 #[.pointer (some ⟨R, 0, none⟩)] W (ExAns W R g T n c J E d (rx k d (tl T E J))) := fun W J h1 h2 h3 h4 => ih d J W (by omega) hd9 h2 h3 h4
    by_cases hv : I < n ∧ vb (T.getD I default).w = true
    · have e : rx (k + 1) d (tl T E I) = (if (phR (T.getD I default).w false (mk (tl T E (I + 1))).1).2 = 0 then .err (T.getD I default).a 43 else (rx k d (mk (tl T E (I + 1))).2).put [] [⟨(phR (T.getD I default).w false (mk (tl T E (I + 1))).1).1, (T.getD I default).a, (phR (T.getD I default).w false (mk (tl T E (I + 1))).1).2, [], []⟩]) := by
        rw [tl_cons (by omega), rx_cons, if_pos hv.2]; congr 1; cases rx k d (mk (tl T E (I + 1))).2 <;> rfl
      rw [e]
      by_cases h0 : (phR (T.getD I default).w false (mk (tl T E (I + 1))).1).2 = 0
      · rw [if_pos h0]
        exact expr_vn w R g n c I T E d h hlg hn7 hT hId hIn hv.1 hv.2 _ rfl h0
      · rw [if_neg h0]
        exact expr_v w R g n c I T E d h hlg hn7 hT hId hIn hv.1 hv.2 _ rfl h0 (rx k d) HX
    · rw [rx_tl hnn hv]
      have HO : ∀ W : World, RZ W R g T n c I E d 0 0 → g < W.heap.size → Calls Tryd.prog 84 #[.pointer (some ⟨R, 0, none⟩)] W (ExAns W R g T n c I E d (ropdT (rx k (d + 1)) d (tl T E I))) := fun W h1 h2 => operand_any W R g n c I T E d h1 h2 hn7 hT hkk hIn hd9 k (by omega) hv fun W2 h3 h4 h5 h6 => ih (d + 1) (I + 1) W2 (by omega) (by omega) (by omega) h5 h6
      cases hy : ropdT (rx k (d + 1)) d (tl T E I) with
      | err a e =>
        rw [hy] at HO
        exact expr_o1 w R g n c I T E d h hlg hn7 hT hId hIn hv a e HO
      | ok left rest =>
        obtain ⟨J, hJ1, hJ2, rfl⟩ := ropd_rest hnn hT hIn (by omega) hv hy
        rw [hy] at HO
        show Calls _ _ _ _ (ExAns w R g T n c I E d (rtail (rx k d) left (tl T E J)))
        rcases Nat.lt_or_ge J n with hJn | hJn
        · have hk4 : ¬ (T.getD J default).k = 4 := hT.k4 _ (getD_mem (by omega))
          by_cases h41 : (T.getD J default).w = [41]
          · have e : rtail (rx k d) left (tl T E J) = .ok left (tl T E J) := by rw [tl_cons (by omega), rtail_cons, if_pos (.inr h41)]
            rw [e]
            exact expr_o3 w R g n c I T E d h hlg hn7 hT hId hIn hv J hJ2 left HO hJn h41
          have e : rtail (rx k d) left (tl T E J) = if vb (T.getD J default).w then (if (phR (T.getD J default).w true (mk (tl T E (J + 1))).1).2 = 0 then .err (T.getD J default).a 43 else (rx k d (mk (tl T E (J + 1))).2).put left [⟨(phR (T.getD J default).w true (mk (tl T E (J + 1))).1).1, (T.getD J default).a, (phR (T.getD J default).w true (mk (tl T E (J + 1))).1).2, [], []⟩]) else .err (T.getD J default).a 46 := by
            rw [tl_cons (by omega), rtail_cons, if_neg (fun a => a.elim hk4 h41)]; congr 1; congr 1; cases rx k d (mk (tl T E (J + 1))).2 <;> rfl
          rw [e]
          by_cases hvj : vb (T.getD J default).w = true
          · rw [if_pos hvj]
            by_cases h0 : (phR (T.getD J default).w true (mk (tl T E (J + 1))).1).2 = 0
            · rw [if_pos h0]
              exact expr_o5 w R g n c I T E d h hlg hn7 hT hId hIn hv J hJ2 left HO hJn h41 hvj _ rfl h0
            · rw [if_neg h0]
              exact expr_o6 w R g n c I T E d h hlg hn7 hT hId hIn hv J hJ2 left HO hJn h41 hvj _ rfl h0 (rx k d) HX
          · rw [if_neg hvj]
            exact expr_o4 w R g n c I T E d h hlg hn7 hT hId hIn hv J hJ2 left HO hJn h41 hvj
        · have e : rtail (rx k d) left (tl T E J) = .ok left (tl T E J) := by rw [tl_end (by omega), rtail_cons, if_pos (.inl rfl)]
          rw [e]
          exact expr_o2 w R g n c I T E d h hlg hn7 hT hId hIn hv J hJ2 left HO (by omega)
end Go.Proofs.YthdognmppbckbaaDoor
/- The document's whole. Written by gen_zh.py. -/
namespace Go.Proofs.YthdognmppbckbaaDoor
open Go.RowKit
set_option linter.unusedVariables false
def WhAns (w : World) (R g : Nat) (T : List Tk) (n c : Nat) (E : Int) (x : Er) (e : Ending) (w' : World) : Prop :=
  ∃ A m k l, e = .returned (.slice A m k) ∧ OI w' w.heap.size (.slice A m k) m l ∧ Fr (fun k => k = R) w w' ∧ m ≤ n ∧ ∃ I' fa fc, RZ w' R g T n c I' E (0 : Nat) fa fc ∧ match x with
    | .err a c => fa = a ∧ fc = c ∧ (c != 0) = true
    | .ok its => l = its ∧ fa = 0 ∧ fc = 0
set_option maxRecDepth 100000 in
set_option maxHeartbeats 1600000 in
theorem whole_1 (w : World) (R g n c I : Nat) (T : List Tk) (E : Int) (h : RZ w R g T n c I E (0 : Nat) 0 0) (hlg : g < w.heap.size) (hn7 : n ≤ 1000000) (hIn : I ≤ n) (a e0 : Int) (HX : ∀ W : World, RZ W R g T n c I E (0 : Nat) 0 0 → g < W.heap.size → Calls Tryd.prog 70 #[.pointer (some ⟨R, 0, none⟩)] W (ExAns W R g T n c I E 0 (.err a e0))) : Calls Tryd.prog 50 #[.pointer (some ⟨R, 0, none⟩)] w (WhAns w R g T n c E (.err a e0)) := by
  have hRl := h.lt
  have HZ := Lib.hid h
  have HXX := Lib.hid HX
  have HB := Lib.hid (And.intro hlg h.hn)
  clear h hlg HX
  go_enter Tryd.func50, Tryd.ntmps50
  go_wp2_with fail
  refine (HXX.out _ HZ.out HB.out.1).mono ?_
  rintro e w2 ⟨A, m, k, l, rfl, o2, f2, hm2, I', fa, fc, z2, hI', ok2⟩
  obtain ⟨rfl, rfl, hne⟩ := ok2
  have HN := Lib.hid hne
  have hne2 : (fc == 0) = false := by simpa using hne
  clear hne
  have O2 := Lib.hid o2
  have F2 := Lib.hid f2
  have Z2 := Lib.hid z2
  have HM := Lib.hid (show m ≤ n by omega)
  obtain ⟨c0, c1, -, -, -, c5⟩ := z2.c0
  have u0 := fun j => (show (w2.drewN j).cell? ⟨R, 0, none⟩ = some (.slice (some ⟨g, 0, none⟩) n c) from c0)
  have u1 := fun j => (show (w2.drewN j).cell? ⟨R, 1, none⟩ = some (.int .i64 I') from c1)
  have u5 := fun j => (show (w2.drewN j).cell? ⟨R, 5, none⟩ = some (.int .i64 fc) from c5)
  clear o2 f2 z2 c0 c1 c5 HXX hm2
  go_wp2
  go_quiet (fail)
  go_wp2
  refine bodyPost_ret (v := .slice A m k) (by simp [results, Tryd.results50, go_sem]) rfl ?_
  exact ⟨A, m, k, l, rfl, by first | exact O2.out | exact O2.out.below (below_drewN (Below.refl _ _) (Nat.le_refl _)), by first | exact F2.out | exact F2.out.drewN _, HM.out, I', fa, fc, by first | exact Z2.out | exact Z2.out.keep (below_drewN (Below.refl _ _) (Nat.le_refl _)), rfl, rfl, HN.out⟩
set_option maxRecDepth 100000 in
set_option maxHeartbeats 1600000 in
theorem whole_2 (w : World) (R g n c I : Nat) (T : List Tk) (E : Int) (h : RZ w R g T n c I E (0 : Nat) 0 0) (hlg : g < w.heap.size) (hn7 : n ≤ 1000000) (hIn : I ≤ n) (its : List It) (J : Nat) (hJle : J ≤ n) (HX : ∀ W : World, RZ W R g T n c I E (0 : Nat) 0 0 → g < W.heap.size → Calls Tryd.prog 70 #[.pointer (some ⟨R, 0, none⟩)] W (ExAns W R g T n c I E 0 (.ok its (tl T E J)))) (hJn : J = n) : Calls Tryd.prog 50 #[.pointer (some ⟨R, 0, none⟩)] w (WhAns w R g T n c E (.ok its)) := by
  have hRl := h.lt
  have HZ := Lib.hid h
  have HXX := Lib.hid HX
  have HB := Lib.hid (And.intro hlg h.hn)
  clear h hlg HX
  go_enter Tryd.func50, Tryd.ntmps50
  go_wp2_with fail
  refine (HXX.out _ HZ.out HB.out.1).mono ?_
  rintro e w2 ⟨A, m, k, l, rfl, o2, f2, hm2, I', fa, fc, z2, hI', ok2⟩
  obtain ⟨rfl, rfl, rfl, hIJ, hI'n, htl, hmJ⟩ := ok2
  obtain rfl : I' = J := tl_inj HB.out.2 htl hI'n hJle
  clear htl hmJ
  have O2 := Lib.hid o2
  have F2 := Lib.hid f2
  have Z2 := Lib.hid z2
  have HM := Lib.hid (show m ≤ n by omega)
  obtain ⟨c0, c1, -, -, -, c5⟩ := z2.c0
  have u0 := fun j => (show (w2.drewN j).cell? ⟨R, 0, none⟩ = some (.slice (some ⟨g, 0, none⟩) n c) from c0)
  have u1 := fun j => (show (w2.drewN j).cell? ⟨R, 1, none⟩ = some (.int .i64 I') from c1)
  have u5 := fun j => (show (w2.drewN j).cell? ⟨R, 5, none⟩ = some (.int .i64 0) from c5)
  clear o2 f2 z2 c0 c1 c5 HXX hm2
  have hd : decide ((I' : Int) < (n : Int)) = false := by simp; omega
  have hlt : ¬ I' < n := by omega
  go_wp2
  go_quiet (fail)
  go_wp2
  refine bodyPost_ret (v := .slice A m k) (by simp [results, Tryd.results50, go_sem]) rfl ?_
  exact ⟨A, m, k, l, rfl, by first | exact O2.out | exact O2.out.below (below_drewN (Below.refl _ _) (Nat.le_refl _)), by first | exact F2.out | exact F2.out.drewN _, HM.out, I', 0, 0, by first | exact Z2.out | exact Z2.out.keep (below_drewN (Below.refl _ _) (Nat.le_refl _)), rfl, rfl, rfl⟩
set_option maxRecDepth 100000 in
set_option maxHeartbeats 1600000 in
theorem whole_3 (w : World) (R g n c I : Nat) (T : List Tk) (E : Int) (h : RZ w R g T n c I E (0 : Nat) 0 0) (hlg : g < w.heap.size) (hn7 : n ≤ 1000000) (hIn : I ≤ n) (its : List It) (J : Nat) (hJle : J ≤ n) (HX : ∀ W : World, RZ W R g T n c I E (0 : Nat) 0 0 → g < W.heap.size → Calls Tryd.prog 70 #[.pointer (some ⟨R, 0, none⟩)] W (ExAns W R g T n c I E 0 (.ok its (tl T E J)))) (hJn : J < n) : Calls Tryd.prog 50 #[.pointer (some ⟨R, 0, none⟩)] w (WhAns w R g T n c E (.err (T.getD J default).a 46)) := by
  have hRl := h.lt
  have HZ := Lib.hid h
  have HXX := Lib.hid HX
  have HB := Lib.hid (And.intro hlg h.hn)
  obtain ⟨pa, hpa⟩ : ∃ pa, pa = (T.getD J default).a := ⟨_, rfl⟩
  rw [← hpa]
  have HPL := Lib.hid (show placeR T J E = pa by rw [hpa]; unfold placeR; rw [if_pos (by rw [h.hn]; exact hJn)])
  clear h hlg HX hpa
  go_enter Tryd.func50, Tryd.ntmps50
  go_wp2_with fail
  refine (HXX.out _ HZ.out HB.out.1).mono ?_
  rintro e w2 ⟨A, m, k, l, rfl, o2, f2, hm2, I', fa, fc, z2, hI', ok2⟩
  obtain ⟨rfl, rfl, rfl, hIJ, hI'n, htl, hmJ⟩ := ok2
  obtain rfl : I' = J := tl_inj HB.out.2 htl hI'n hJle
  clear htl hmJ
  have O2 := Lib.hid o2
  have F2 := Lib.hid f2
  have Z2 := Lib.hid z2
  have HM := Lib.hid (show m ≤ n by omega)
  obtain ⟨c0, c1, -, -, -, c5⟩ := z2.c0
  have u0 := fun j => (show (w2.drewN j).cell? ⟨R, 0, none⟩ = some (.slice (some ⟨g, 0, none⟩) n c) from c0)
  have u1 := fun j => (show (w2.drewN j).cell? ⟨R, 1, none⟩ = some (.int .i64 I') from c1)
  have u5 := fun j => (show (w2.drewN j).cell? ⟨R, 5, none⟩ = some (.int .i64 0) from c5)
  clear o2 f2 z2 c0 c1 c5 HXX hm2
  have hd : decide ((I' : Int) < (n : Int)) = true := by simp; omega
  go_wp2
  go_quiet (fail)
  obtain ⟨w3, hw3⟩ : ∃ w3, w3 = w2.drewN nq := ⟨_, rfl⟩
  rw [← hw3]
  have F3 := Lib.hid (show Fr (fun k => k = R) w w3 by rw [hw3]; exact F2.out.drewN _)
  have Z3 := Lib.hid (show RZ w3 R g T n c I' E (0 : Nat) 0 0 by rw [hw3]; exact Z2.out.keep (below_drewN (Below.refl _ _) (Nat.le_refl _)))
  clear hw3 u0 u1 u5 hd
  go_wp2_with fail
  refine (no_any _ R g n c I' T E (0 : Nat) 0 0 46 Z3.out).mono ?_
  rintro e w5 ⟨rfl, z5, f5⟩
  rw [HPL.out] at z5
  have Z5 := Lib.hid z5
  have F5 := Lib.hid (F3.out.trans f5)
  clear z5 f5
  go_wp2
  refine bodyPost_ret (v := .slice none 0 0) (by simp [results, Tryd.results50, go_sem]) rfl ?_
  exact ⟨none, 0, 0, [], rfl, OI.nil _ _, F5.out, Nat.zero_le _, I', pa, 46, Z5.out, rfl, rfl, rfl⟩
set_option maxHeartbeats 1000000 in
theorem whole_any (w : World) (R g n c I : Nat) (T : List Tk) (E : Int) (h : RZ w R g T n c I E (0 : Nat) 0 0) (hlg : g < w.heap.size) (hn7 : n ≤ 1000000) (hIn : I ≤ n) (hT : LT T) (hkk : ∀ t ∈ T, t.k = 1 ∨ t.k = 2 ∨ t.k = 3) : Calls Tryd.prog 50 #[.pointer (some ⟨R, 0, none⟩)] w (WhAns w R g T n c E (exprR (tl T E I))) := by
  have hnn := h.hn
  have HX := fun (W : World) (h1 : RZ W R g T n c I E (0 : Nat) 0 0) (h2 : g < W.heap.size) => expr04_any R g n c T E hn7 hnn hT hkk (n - I + 1) 0 I W (Nat.le_refl _) (by omega) hIn h1 h2
  rw [whole_eq (tl_ends T E I) (hT.e4 E I)]
  unfold rwhole
  rw [tl_len, hnn]
  cases hx : rx (n - I + 1) 0 (tl T E I) with
  | err a e =>
    rw [hx] at HX
    exact whole_1 w R g n c I T E h hlg hn7 hIn a e HX
  | ok its rest =>
    obtain ⟨J, hJ1, hJ2, rfl⟩ := rx_rest hnn hT hIn (Nat.le_refl _) hx
    rw [hx] at HX
    rcases Nat.lt_or_ge J n with hJn | hJn
    · rw [tl_cons (by omega)]
      show Calls _ _ _ _ (WhAns w R g T n c E (if (T.getD J default).k = 4 then _ else _))
      rw [if_neg (hT.k4 _ (getD_mem (by omega)))]
      exact whole_3 w R g n c I T E h hlg hn7 hIn its J hJ2 HX hJn
    · rw [tl_end (by omega)]
      show Calls _ _ _ _ (WhAns w R g T n c E (if (4 : Int) = 4 then _ else _))
      rw [if_pos rfl]
      exact whole_2 w R g n c I T E h hlg hn7 hIn its J hJ2 HX (by omega)
end Go.Proofs.YthdognmppbckbaaDoor
