/- Contracts: Eval, of the package and of the document's answers. -/
import Derived.Test.YtogflbpphacokaaPolyEC
namespace Go.Proofs.Ytogflbpphacokaa
open Go.RowKit

def valM (D : Nat → Nat) (m : Mo) : Int := m.n * (mon D m : Nat)
def val (D : Nat → Nat) : List Mo → Int
  | [] => 0
  | m :: l => valM D m + val D l
def tot (D : Nat → Nat) : List Mo → Nat
  | [] => 0
  | m :: l => sizeM D m + tot D l
theorem valM_neg {D : Nat → Nat} {m : Mo} (h : m.n < 0) : valM D m = -(sizeM D m : Nat) := by
  unfold valM sizeM; rw [Int.natCast_mul, show ((m.n.natAbs : Nat) : Int) = -m.n from by omega, Int.neg_mul, Int.neg_neg]
theorem valM_pos {D : Nat → Nat} {m : Mo} (h : ¬ m.n < 0) : valM D m = (sizeM D m : Nat) := by
  unfold valM sizeM; rw [Int.natCast_mul, show ((m.n.natAbs : Nat) : Int) = m.n from by omega]
theorem val_append (D : Nat → Nat) (l r : List Mo) : val D (l ++ r) = val D l + val D r := by
  induction l with
  | nil => simp [val]
  | cons a l ih => simp only [List.cons_append, val, ih]; omega
theorem tot_append (D : Nat → Nat) (l r : List Mo) : tot D (l ++ r) = tot D l + tot D r := by
  induction l with
  | nil => simp [tot]
  | cons a l ih => simp only [List.cons_append, tot, ih]; omega
theorem val_le (D : Nat → Nat) (l : List Mo) : -(tot D l : Nat) ≤ val D l ∧ val D l ≤ (tot D l : Nat) := by
  induction l with
  | nil => simp [val, tot]
  | cons a l ih =>
    simp only [val, tot]
    by_cases h : a.n < 0
    · rw [valM_neg h]; omega
    · rw [valM_pos h]; omega
theorem nth_take_snoc {l : List Mo} {k : Nat} (hk : k < l.length) : l.take (k + 1) = l.take k ++ [nth l k] := by
  rw [List.take_succ_eq_append_getElem hk]; unfold nth; rw [List.getD_eq_getElem?_getD, List.getElem?_eq_getElem hk]; rfl
theorem tot_next (D : Nat → Nat) {l : List Mo} {k : Nat} (hk : k < l.length) : tot D (l.take (k + 1)) = tot D (l.take k) + sizeM D (nth l k) := by
  rw [nth_take_snoc hk, tot_append]; simp [tot]
theorem val_next (D : Nat → Nat) {l : List Mo} {k : Nat} (hk : k < l.length) : val D (l.take (k + 1)) = val D (l.take k) + valM D (nth l k) := by
  rw [nth_take_snoc hk, val_append]; simp [val]
theorem tot_take (D : Nat → Nat) (l : List Mo) (k : Nat) : tot D (l.take k) ≤ tot D l := by
  have := tot_append D (l.take k) (l.drop k)
  rw [List.take_append_drop] at this
  omega
def evalR (p : List Mo) (ds : List Int) : Int × Int := if rightB p = true then (if dimsOk ds = true then (if tot (DV ds) p ≤ 4611686018427387904 then (val (DV ds) p, 0) else (0, 22)) else (0, 23)) else (0, 20)
theorem eval_form {p : List Mo} {ds : List Int} (h : rightB p = false) : evalR p ds = (0, 20) := by unfold evalR; rw [h]; rfl
theorem eval_dims {p : List Mo} {ds : List Int} (h : rightB p = true) (h2 : dimsOk ds = false) : evalR p ds = (0, 23) := by unfold evalR; rw [h, h2]; rfl
theorem eval_big {p : List Mo} {ds : List Int} (h : rightB p = true) (h2 : dimsOk ds = true) (h3 : ¬ tot (DV ds) p ≤ 4611686018427387904) : evalR p ds = (0, 22) := by unfold evalR; rw [h, h2, if_pos rfl, if_pos rfl, if_neg h3]
theorem eval_ok {p : List Mo} {ds : List Int} (h : rightB p = true) (h2 : dimsOk ds = true) (h3 : tot (DV ds) p ≤ 4611686018427387904) : evalR p ds = (val (DV ds) p, 0) := by unfold evalR; rw [h, h2, if_pos rfl, if_pos rfl, if_pos h3]
/-- What a round learns: the size fits the room, or the whole is too great. -/
theorem room_no {D : Nat → Nat} {l : List Mo} {k : Nat} (hk : k < l.length) (h : 4611686018427387904 - tot D (l.take k) < satN (sizeM D (nth l k))) (hl : tot D (l.take k) ≤ 4611686018427387904) : ¬ tot D l ≤ 4611686018427387904 := by
  have h1 := tot_next D hk
  have h2 := tot_take D l (k + 1)
  unfold satN at h
  split at h <;> omega
theorem room_yes {D : Nat → Nat} {l : List Mo} {k : Nat} (hk : k < l.length) (h : ¬ 4611686018427387904 - tot D (l.take k) < satN (sizeM D (nth l k))) (hl : tot D (l.take k) ≤ 4611686018427387904) : satN (sizeM D (nth l k)) = sizeM D (nth l k) ∧ tot D (l.take (k + 1)) ≤ 4611686018427387904 := by
  have h1 := tot_next D hk
  unfold satN at h ⊢
  split at h
  · rename_i h2; rw [if_pos h2]; omega
  · omega
def EvalRes (w : World) (r : Int × Int) (e : Ending) (w' : World) : Prop := e = .returned (.tuple #[.int .i64 r.1, .int .i64 r.2]) ∧ Gr w w'

def Arr6 (w : World) (g : Nat) (V : Nat → Nat) : Prop := ∀ k, k < 6 → w.cell? ⟨g, k, none⟩ = some (.int .u64 (V k : Nat))
theorem Arr6.gr {w w' : World} {g : Nat} {V : Nat → Nat} (h : Arr6 w g V) (hb : g < w.heap.size) (hg : Gr w w') : Arr6 w' g V := fun k hk => (hg.cell hb).trans (h k hk)
theorem Arr6.new (w : World) (V : Nat → Nat) : Arr6 (w.alloc (.cells #[.int .u64 ((V 0 : Nat) : Int), .int .u64 ((V 1 : Nat) : Int), .int .u64 ((V 2 : Nat) : Int), .int .u64 ((V 3 : Nat) : Int), .int .u64 ((V 4 : Nat) : Int), .int .u64 ((V 5 : Nat) : Int)] 58)) w.heap.size V := fun k hk => by
  match k, hk with
  | 0, _ => go_simp <;> rfl
  | 1, _ => go_simp <;> rfl
  | 2, _ => go_simp <;> rfl
  | 3, _ => go_simp <;> rfl
  | 4, _ => go_simp <;> rfl
  | 5, _ => go_simp <;> rfl

set_option maxRecDepth 100000 in
set_option maxHeartbeats 1000000 in
theorem eval_any (A B : Option Addr) (p : List Mo) (ds : List Int) (c d : Nat) (w : World) (h : Rd w w.heap.size A p) (g : RdI w w.heap.size B ds) (hl : p.length ≤ maxLen) (hl2 : ds.length ≤ maxLen) :
    Calls Try.prog 30 #[.slice A p.length c, .slice B ds.length d] w (EvalRes w (evalR p ds)) := by
  have H := Lib.hid h
  have G := Lib.hid g
  clear h g
  cases hp : rightB p with
  | false =>
    have hz := Lib.hid (eval_form (ds := ds) hp)
    go_enter Try.func30, Try.ntmps30
    go_wp2_with (go_at_call 13; refine (right_any A p c _ H.out hl).mono ?_; rintro e W ⟨rfl, hg1⟩)
    go_ret2
    exact ⟨by rw [hz.out]; rfl, hg1⟩
  | true =>
    cases hd : dimsOk ds with
    | false =>
      have hz := Lib.hid (eval_dims hp hd)
      go_enter Try.func30, Try.ntmps30
      go_wp2_with fail
      refine (right_any A p c _ H.out hl).mono ?_
      rintro e W ⟨rfl, hg1⟩
      go_wp2_with fail
      refine (variables_any B ds d _ (G.out.gr hg1) hl2).mono ?_
      rintro e W2 ⟨V, k, rfl, hV, hg2⟩
      rcases hV with ⟨h1, _⟩ | ⟨_, rfl⟩
      · rw [hd] at h1; cases h1
      · go_wp2
        go_ret2
        exact ⟨by rw [hz.out]; rfl, (hg1.trans hg2).alloc _⟩
    | true =>
      have hpl : p.length ≤ 48 := ((right_iff p).1 hp).1
      have HRP := Lib.hid ((right_iff p).1 hp).2.2
      have HDD := Lib.hid hd
      go_enter Try.func30, Try.ntmps30
      go_wp2_with fail
      refine (right_any A p c _ H.out hl).mono ?_
      rintro e W ⟨rfl, hg1⟩
      go_wp2_with fail
      refine (variables_any B ds d _ (G.out.gr hg1) hl2).mono ?_
      rintro e W2 ⟨V, k, rfl, hV, hg2⟩
      rcases hV with ⟨_, rfl, rfl⟩ | ⟨h1, _⟩
      · have HG2 := Lib.hid (hg1.trans hg2)
        clear hg1 hg2
        have HAR := Lib.hid (Arr6.new W2 (DV ds))
        go_wp2
        go_loopw [8, 9, 26] (fun v r i wr => ∃ (k rm : Nat) (vv : Int), k ≤ p.length ∧ i = .int .i64 k ∧ v = .int .i64 vv ∧ r = .int .u64 rm ∧ rm + tot (DV ds) (p.take k) = 4611686018427387904 ∧ vv = val (DV ds) (p.take k) ∧ Gr (W2.alloc (.cells #[.int .u64 (((DV ds) 0 : Nat) : Int), .int .u64 (((DV ds) 1 : Nat) : Int), .int .u64 (((DV ds) 2 : Nat) : Int), .int .u64 (((DV ds) 3 : Nat) : Int), .int .u64 (((DV ds) 4 : Nat) : Int), .int .u64 (((DV ds) 5 : Nat) : Int)] 58)) wr) (fun _ _ i _ => p.length - (intOf i).toNat)
        case atStart => exact ⟨0, 4611686018427387904, 0, by omega, rfl, rfl, rfl, rfl, rfl, Gr.refl _⟩
        case round =>
          obtain ⟨k, rm, vv, hk, rfl, rfl, rfl, hrm, hvv, hg⟩ := hrel
          have hvl := val_le (DV ds) (p.take k)
          rw [← hvv] at hvl
          have hv1 : -4611686018427387904 ≤ vv - (rm : Int) := by omega
          have hv2 : vv + (rm : Int) ≤ 4611686018427387904 := by omega
          have hrl : rm ≤ 4611686018427387904 := by omega
          have HRM := Lib.hid hrm
          have HVV := Lib.hid hvv
          have HG := Lib.hid hg
          clear hrm hvv hg hvl
          by_cases hlt : k < p.length
          · obtain ⟨b, o, rfl, hb, hc⟩ := H.out.at_ k hlt
            have HC := Lib.hid (hc k hlt)
            obtain ⟨n0, n1, n2, n3, n4, n5, n6⟩ := HC.out.2.gr hb ((HG2.out.alloc _).trans HG.out)
            have ha := fun oo => (HAR.out.gr (by simp) HG.out).gr (HG.out.lt (by simp)) ((Gr.refl wr).alloc oo)
            have a0 := fun oo => ha oo 0 (by omega)
            have a1 := fun oo => ha oo 1 (by omega)
            have a2 := fun oo => ha oo 2 (by omega)
            have a3 := fun oo => ha oo 3 (by omega)
            have a4 := fun oo => ha oo 4 (by omega)
            have a5 := fun oo => ha oo 5 (by omega)
            have hgood := HRP.out _ (nth_mem hlt)
            obtain ⟨s, hs⟩ : ∃ s, s = satN (sizeM (DV ds) (nth p k)) := ⟨_, rfl⟩
            have hcall := fun W => size_any (nth p k) HC.out.1 (by omega) (DV ds) (fun j => DV_le HDD.out j) W
            rw [← hs] at hcall
            have HCALL := Lib.hid hcall
            have HSS := Lib.hid hs
            clear hc ha hgood hcall hs
            by_cases hbig : rm < s
            · have hz := Lib.hid (eval_big hp HDD.out (room_no hlt (by rw [← HSS.out]; have := HRM.out; omega) (by have := HRM.out; omega)))
              go_wp2_with (go_at_call 45; refine (HCALL.out _).mono ?_; rintro e W4 ⟨rfl, hg4⟩)
              go_ret2
              exact ⟨by rw [hz.out]; rfl, ((HG2.out.alloc _).trans HG.out).trans (((Gr.refl _).alloc _).trans hg4)⟩
            · have hroom := room_yes hlt (show ¬ 4611686018427387904 - tot (DV ds) (p.take k) < satN (sizeM (DV ds) (nth p k)) by rw [← HSS.out]; have := HRM.out; omega) (by have := HRM.out; omega)
              have HROOM := Lib.hid hroom
              clear hroom
              by_cases hneg : (nth p k).n < 0
              · go_wp2_with (go_at_call 45; refine (HCALL.out _).mono ?_; rintro e W4 ⟨rfl, hg4⟩; obtain ⟨m0, m1, m2, m3, m4, m5, m6⟩ := (Cells7.box wr (nth p k)).gr (by simp) hg4)
                go_roundw
                case rel => exact ⟨k + 1, rm - s, vv - s, by omega, by go_num, rfl, by congr 1; omega, by rw [tot_next _ hlt, ← HROOM.out.1, ← HSS.out]; have := HRM.out; omega, by rw [val_next _ hlt, valM_neg hneg, ← HROOM.out.1, ← HSS.out, ← HVV.out]; omega, HG.out.trans (((Gr.refl _).alloc _).trans hg4)⟩
                case measure => simp [intOf]; omega
              · go_wp2_with (go_at_call 45; refine (HCALL.out _).mono ?_; rintro e W4 ⟨rfl, hg4⟩; obtain ⟨m0, m1, m2, m3, m4, m5, m6⟩ := (Cells7.box wr (nth p k)).gr (by simp) hg4)
                go_roundw
                case rel => exact ⟨k + 1, rm - s, vv + s, by omega, by go_num, rfl, by congr 1; omega, by rw [tot_next _ hlt, ← HROOM.out.1, ← HSS.out]; have := HRM.out; omega, by rw [val_next _ hlt, valM_pos (show ¬ (nth p k).n < 0 by omega), ← HROOM.out.1, ← HSS.out, ← HVV.out], HG.out.trans (((Gr.refl _).alloc _).trans hg4)⟩
                case measure => simp [intOf]; omega
          · obtain rfl : k = p.length := by omega
            have ht := HRM.out
            have hv := HVV.out
            rw [List.take_length] at ht hv
            have hz := Lib.hid (eval_ok hp HDD.out (show tot (DV ds) p ≤ 4611686018427387904 by omega))
            have HV := Lib.hid hv
            clear ht hv
            go_wp2
            go_ret2
            exact ⟨by rw [hz.out, ← HV.out]; rfl, (HG2.out.alloc _).trans HG.out⟩
      · rw [hd] at h1; cases h1

set_option maxRecDepth 100000 in
set_option maxHeartbeats 2000000 in
theorem refeval_any (A B : Option Addr) (p : List Mo) (ds : List Int) (c d : Nat) (w : World) (h : Rd w w.heap.size A p) (g : RdI w w.heap.size B ds) (hl : p.length ≤ maxLen) (hl2 : ds.length ≤ maxLen) :
    Calls Try.prog 31 #[.slice A p.length c, .slice B ds.length d] w (EvalRes w (evalR p ds)) := by
  have H := Lib.hid h
  have G := Lib.hid g
  clear h g
  have hl3 := hl2
  unfold maxLen at hl3
  cases hp : rightB p with
  | false =>
    have hz := Lib.hid (eval_form (ds := ds) hp)
    go_enter Try.func31, Try.ntmps31
    go_wp2_with (go_at_call 16; refine (refright_any A p c _ H.out hl).mono ?_; rintro e W ⟨rfl, hg1⟩)
    go_ret2
    exact ⟨by rw [hz.out]; rfl, hg1⟩
  | true =>
    by_cases h6 : ds.length ≤ 6
    rotate_left
    · have hz := Lib.hid (eval_dims hp (dims_long h6))
      go_enter Try.func31, Try.ntmps31
      go_wp2_with (go_at_call 16; refine (refright_any A p c _ H.out hl).mono ?_; rintro e W ⟨rfl, hg1⟩)
      go_ret2
      exact ⟨by rw [hz.out]; rfl, hg1⟩
    have hpl : p.length ≤ 48 := ((right_iff p).1 hp).1
    have HRP := Lib.hid ((right_iff p).1 hp).2.2
    go_enter Try.func31, Try.ntmps31
    go_wp2_with fail
    refine (refright_any A p c _ H.out hl).mono ?_
    rintro e W ⟨rfl, hg1⟩
    have HG1 := Lib.hid hg1
    clear hg1
    go_wp2
    go_loop [6] (fun i => ∃ k : Nat, k ≤ ds.length ∧ i = .int .i64 k ∧ (∀ j, j < k → okD (ith ds j) = true)) (fun i => ds.length - (intOf i).toNat)
    case atStart => exact ⟨0, by omega, rfl, fun j hj => by omega⟩
    case round =>
      obtain ⟨k, hk, rfl, hok⟩ := hrel
      have HK := Lib.hid hok
      clear hok
      by_cases hlt : k < ds.length
      · obtain ⟨b, o, rfl, hb, hc⟩ := G.out.2 (by omega)
        have c0 : W.cell? ⟨b, o + k, none⟩ = some (.int .i64 (ith ds k)) := (HG1.out.cell hb).trans (hc k hlt)
        clear hc
        by_cases h1 : ith ds k < 0
        · have hz := Lib.hid (eval_dims hp (dims_not hlt (show okD (ith ds k) = false by simp [okD]; omega)))
          go_wp2
          go_ret2
          exact ⟨by rw [hz.out]; rfl, HG1.out⟩
        · by_cases h2 : 2147483648 < ith ds k
          · have hz := Lib.hid (eval_dims hp (dims_not hlt (show okD (ith ds k) = false by simp [okD]; omega)))
            go_wp2
            go_ret2
            exact ⟨by rw [hz.out]; rfl, HG1.out⟩
          · have hokk := Lib.hid (show okD (ith ds k) = true by simp [okD]; omega)
            go_wp2
            go_round
            case rel => exact ⟨k + 1, by omega, by go_num, fun j hj => by
              rcases Nat.lt_or_ge j k with h3 | h3
              · exact HK.out j h3
              · obtain rfl : j = k := by omega
                exact hokk.out⟩
            case measure => simp [intOf]; omega
      · obtain rfl : k = ds.length := by omega
        have HDD := Lib.hid (dims_all h6 HK.out)
        clear HK
        go_wp2
        go_loopw [7, 8, 9] (fun r v i wr => ∃ (k rm : Nat) (vv : Int), k ≤ p.length ∧ i = .int .i64 k ∧ v = .int .i64 vv ∧ r = .int .i64 rm ∧ rm + tot (DV ds) (p.take k) = 4611686018427387904 ∧ vv = val (DV ds) (p.take k) ∧ Gr w wr) (fun _ _ i _ => p.length - (intOf i).toNat)
        case atStart => exact ⟨0, 4611686018427387904, 0, by omega, rfl, rfl, rfl, rfl, rfl, HG1.out⟩
        case round =>
          obtain ⟨k, rm, vv, hk, rfl, rfl, rfl, hrm, hvv, hg⟩ := hrel
          have hvl := val_le (DV ds) (p.take k)
          rw [← hvv] at hvl
          have hv1 : -4611686018427387904 ≤ vv - (rm : Int) := by omega
          have hv2 : vv + (rm : Int) ≤ 4611686018427387904 := by omega
          have hrl : rm ≤ 4611686018427387904 := by omega
          have HRM := Lib.hid hrm
          have HVV := Lib.hid hvv
          have HG := Lib.hid hg
          clear hrm hvv hg hvl
          by_cases hlt : k < p.length
          · obtain ⟨b, o, rfl, hb, hc⟩ := H.out.at_ k hlt
            have HC := Lib.hid (hc k hlt)
            obtain ⟨n0, n1, n2, n3, n4, n5, n6⟩ := HC.out.2.gr hb HG.out
            have hgood := HRP.out _ (nth_mem hlt)
            obtain ⟨s, hs⟩ : ∃ s, s = satN (sizeM (DV ds) (nth p k)) := ⟨_, rfl⟩
            have hcall := refsize_any (nth p k) HC.out.1 (by omega) B ds d wr (G.out.gr HG.out) HDD.out
            rw [← hs] at hcall
            have HCALL := Lib.hid hcall
            have HSS := Lib.hid hs
            have hsl : s ≤ 4611686018427387905 := by rw [hs]; exact satN_le _
            clear hc hgood hcall hs
            by_cases hbig : rm < s
            · have hz := Lib.hid (eval_big hp HDD.out (room_no hlt (by rw [← HSS.out]; have := HRM.out; omega) (by have := HRM.out; omega)))
              go_wp2_with (go_at_call 46; refine HCALL.out.mono ?_; rintro e W4 ⟨rfl, hg4⟩)
              go_ret2
              exact ⟨by rw [hz.out]; rfl, HG.out.trans hg4⟩
            · have hroom := room_yes hlt (show ¬ 4611686018427387904 - tot (DV ds) (p.take k) < satN (sizeM (DV ds) (nth p k)) by rw [← HSS.out]; have := HRM.out; omega) (by have := HRM.out; omega)
              have HROOM := Lib.hid hroom
              clear hroom
              by_cases hneg : (nth p k).n < 0
              · go_wp2_with (go_at_call 46; refine HCALL.out.mono ?_; rintro e W4 ⟨rfl, hg4⟩; obtain ⟨m0, m1, m2, m3, m4, m5, m6⟩ := HC.out.2.gr hb (HG.out.trans hg4))
                go_roundw
                case rel => exact ⟨k + 1, rm - s, vv - s, by omega, by go_num, rfl, by congr 1; omega, by rw [tot_next _ hlt, ← HROOM.out.1, ← HSS.out]; have := HRM.out; omega, by rw [val_next _ hlt, valM_neg hneg, ← HROOM.out.1, ← HSS.out, ← HVV.out]; omega, HG.out.trans hg4⟩
                case measure => simp [intOf]; omega
              · go_wp2_with (go_at_call 46; refine HCALL.out.mono ?_; rintro e W4 ⟨rfl, hg4⟩; obtain ⟨m0, m1, m2, m3, m4, m5, m6⟩ := HC.out.2.gr hb (HG.out.trans hg4))
                go_roundw
                case rel => exact ⟨k + 1, rm - s, vv + s, by omega, by go_num, rfl, by congr 1; omega, by rw [tot_next _ hlt, ← HROOM.out.1, ← HSS.out]; have := HRM.out; omega, by rw [val_next _ hlt, valM_pos (show ¬ (nth p k).n < 0 by omega), ← HROOM.out.1, ← HSS.out, ← HVV.out], HG.out.trans hg4⟩
                case measure => simp [intOf]; omega
          · obtain rfl : k = p.length := by omega
            have ht := HRM.out
            have hv := HVV.out
            rw [List.take_length] at ht hv
            have hz := Lib.hid (eval_ok hp HDD.out (show tot (DV ds) p ≤ 4611686018427387904 by omega))
            have HV := Lib.hid hv
            clear ht hv
            go_wp2
            go_ret2
            exact ⟨by rw [hz.out, ← HV.out]; rfl, HG.out⟩
end Go.Proofs.Ytogflbpphacokaa
