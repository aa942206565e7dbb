/- Layer 4, put together: ParV, ParW, ParF, ParR. -/
import Derived.Laws.Rows
import Derived.Test.YtbapgdhcbfpdoaaGreatDoorZLc
import Derived.Test.YtbapgdhcbfpdoaaGreatDoorZM2
import Derived.Test.YtbapgdhcbfpdoaaGreatDoorZLd
import Derived.Maps.AppendAt
/- Contracts of package parse: Verb. Written by gen_v.py. -/
namespace Go.Proofs.YtbapgdhcbfpdoaaGreatDoor
open Go.RowKit

def vcells : Array Value := (vtab.flatMap fun x => [Value.string (bs x.1), .int .u8 x.2.1, .int .u8 x.2.2]).toArray
def LaidV (w : World) : Prop := ∃ T fr, w.heap[0]? = some (.cells vcells T fr)
def vt (k : Nat) : List UInt8 × Int × Int := vtab.getD k ([], 0, 0)
def vrow (k : Nat) : Value := .agg #[.string (bs (vt k).1), .int .u8 (vt k).2.1, .int .u8 (vt k).2.2]
theorem vi0 (w : World) : (Instr.index 148 (.agg vcells) (.int .i64 0)).run Tryz.prog w = .ok (vrow 0) w := by kernel_rfl
theorem vi1 (w : World) : (Instr.index 148 (.agg vcells) (.int .i64 1)).run Tryz.prog w = .ok (vrow 1) w := by kernel_rfl
theorem vi2 (w : World) : (Instr.index 148 (.agg vcells) (.int .i64 2)).run Tryz.prog w = .ok (vrow 2) w := by kernel_rfl
theorem vi3 (w : World) : (Instr.index 148 (.agg vcells) (.int .i64 3)).run Tryz.prog w = .ok (vrow 3) w := by kernel_rfl
theorem vi4 (w : World) : (Instr.index 148 (.agg vcells) (.int .i64 4)).run Tryz.prog w = .ok (vrow 4) w := by kernel_rfl
theorem vi5 (w : World) : (Instr.index 148 (.agg vcells) (.int .i64 5)).run Tryz.prog w = .ok (vrow 5) w := by kernel_rfl
theorem vi6 (w : World) : (Instr.index 148 (.agg vcells) (.int .i64 6)).run Tryz.prog w = .ok (vrow 6) w := by kernel_rfl
theorem vi7 (w : World) : (Instr.index 148 (.agg vcells) (.int .i64 7)).run Tryz.prog w = .ok (vrow 7) w := by kernel_rfl
theorem vi8 (w : World) : (Instr.index 148 (.agg vcells) (.int .i64 8)).run Tryz.prog w = .ok (vrow 8) w := by kernel_rfl
theorem vi9 (w : World) : (Instr.index 148 (.agg vcells) (.int .i64 9)).run Tryz.prog w = .ok (vrow 9) w := by kernel_rfl
theorem vi10 (w : World) : (Instr.index 148 (.agg vcells) (.int .i64 10)).run Tryz.prog w = .ok (vrow 10) w := by kernel_rfl
theorem vi11 (w : World) : (Instr.index 148 (.agg vcells) (.int .i64 11)).run Tryz.prog w = .ok (vrow 11) w := by kernel_rfl
theorem vi12 (w : World) : (Instr.index 148 (.agg vcells) (.int .i64 12)).run Tryz.prog w = .ok (vrow 12) w := by kernel_rfl
theorem vi13 (w : World) : (Instr.index 148 (.agg vcells) (.int .i64 13)).run Tryz.prog w = .ok (vrow 13) w := by kernel_rfl
theorem vi14 (w : World) : (Instr.index 148 (.agg vcells) (.int .i64 14)).run Tryz.prog w = .ok (vrow 14) w := by kernel_rfl
theorem vi15 (w : World) : (Instr.index 148 (.agg vcells) (.int .i64 15)).run Tryz.prog w = .ok (vrow 15) w := by kernel_rfl
theorem vi16 (w : World) : (Instr.index 148 (.agg vcells) (.int .i64 16)).run Tryz.prog w = .ok (vrow 16) w := by kernel_rfl
theorem vi17 (w : World) : (Instr.index 148 (.agg vcells) (.int .i64 17)).run Tryz.prog w = .ok (vrow 17) w := by kernel_rfl
theorem vi18 (w : World) : (Instr.index 148 (.agg vcells) (.int .i64 18)).run Tryz.prog w = .ok (vrow 18) w := by kernel_rfl
theorem vi19 (w : World) : (Instr.index 148 (.agg vcells) (.int .i64 19)).run Tryz.prog w = .ok (vrow 19) w := by kernel_rfl
theorem vi20 (w : World) : (Instr.index 148 (.agg vcells) (.int .i64 20)).run Tryz.prog w = .ok (vrow 20) w := by kernel_rfl
theorem vi21 (w : World) : (Instr.index 148 (.agg vcells) (.int .i64 21)).run Tryz.prog w = .ok (vrow 21) w := by kernel_rfl
theorem vi22 (w : World) : (Instr.index 148 (.agg vcells) (.int .i64 22)).run Tryz.prog w = .ok (vrow 22) w := by kernel_rfl
theorem vi23 (w : World) : (Instr.index 148 (.agg vcells) (.int .i64 23)).run Tryz.prog w = .ok (vrow 23) w := by kernel_rfl
theorem vi24 (w : World) : (Instr.index 148 (.agg vcells) (.int .i64 24)).run Tryz.prog w = .ok (vrow 24) w := by kernel_rfl
theorem vindex (k : Nat) (hk : k < 25) (w : World) : (Instr.index 148 (.agg vcells) (.int .i64 k)).run Tryz.prog w = .ok (.agg #[.string (bs (vt k).1), .int .u8 (vt k).2.1, .int .u8 (vt k).2.2]) w := by
  match k, hk with
  | 0, _ => exact vi0 w
  | 1, _ => exact vi1 w
  | 2, _ => exact vi2 w
  | 3, _ => exact vi3 w
  | 4, _ => exact vi4 w
  | 5, _ => exact vi5 w
  | 6, _ => exact vi6 w
  | 7, _ => exact vi7 w
  | 8, _ => exact vi8 w
  | 9, _ => exact vi9 w
  | 10, _ => exact vi10 w
  | 11, _ => exact vi11 w
  | 12, _ => exact vi12 w
  | 13, _ => exact vi13 w
  | 14, _ => exact vi14 w
  | 15, _ => exact vi15 w
  | 16, _ => exact vi16 w
  | 17, _ => exact vi17 w
  | 18, _ => exact vi18 w
  | 19, _ => exact vi19 w
  | 20, _ => exact vi20 w
  | 21, _ => exact vi21 w
  | 22, _ => exact vi22 w
  | 23, _ => exact vi23 w
  | 24, _ => exact vi24 w
  | k + 25, h => omega
theorem vsize : (Tryz.prog.info? 148).map (·.size) = some vcells.size := by kernel_rfl
theorem vin_cons (k : Nat) (hk : k < 25) (w : List UInt8) : vlookIn (vtab.drop k) w = if (vt k).1 = w then (vt k).2 else vlookIn (vtab.drop (k + 1)) w := by
  have h : k < vtab.length := hk
  rw [List.drop_eq_getElem_cons h]
  have e : vt k = vtab[k] := by unfold vt; rw [List.getD_eq_getElem?_getD, List.getElem?_eq_getElem h]; rfl
  rw [e]
  rfl
theorem vin_end (w : List UInt8) : vlookIn (vtab.drop 25) w = (0, 0) := rfl
theorem bs_eq_iff (l : List UInt8) (s : ByteArray) : (bs l = s) = (l = s.data.toList) := by
  apply propext
  constructor
  · rintro rfl; rw [bs_list]
  · rintro rfl; rw [bs_of]
theorem Gr.refl (w : World) : Gr w w := ⟨0, #[], by rw [Go.Sort.grow_empty]; rfl⟩
theorem gr_alloc {w wx : World} (h : Gr w wx) (o : Obj) : Gr w (wx.alloc o) := by
  obtain ⟨n, os, rfl⟩ := h
  exact ⟨n, os.push o, by simp [Go.Sort.grow, World.alloc]⟩
theorem gr_drewN {w wx : World} (h : Gr w wx) (m : Nat) : Gr w (wx.drewN m) := by
  obtain ⟨n, os, rfl⟩ := h
  exact ⟨n + m, os, by simp [Go.Sort.grow, World.drewN]; omega⟩
theorem str_is {l : List UInt8} {s : ByteArray} (h : l = s.data.toList) : ((bs l).toList == s.toList) = true := by rw [ByteArray.toList_eq, ByteArray.toList_eq, bs_list, h, beq_self_eq_true]
theorem str_not {l : List UInt8} {s : ByteArray} (h : ¬ l = s.data.toList) : ((bs l).toList == s.toList) = false := by rw [ByteArray.toList_eq, ByteArray.toList_eq, bs_list, beq_eq_false_iff_ne]; exact h
def VerbRes (w : World) (x : List UInt8) (two : Bool) (e : Ending) (w' : World) : Prop := e = .returned (.tuple #[.int .u8 (verbR x two), .bool (verbR x two != 0)]) ∧ Gr w w'
theorem verb_ret {w wx : World} {x : List UInt8} {two : Bool} {f : Int} (hf : verbR x two = f) (h : Gr w wx) : VerbRes w x two (.returned (.tuple #[.int .u8 f, .bool (f != 0)])) wx := by
  subst hf; exact ⟨rfl, h⟩
set_option maxHeartbeats 1000000 in
theorem verb_true (s : ByteArray) (w : World) (hV : LaidV w) : Calls Tryz.prog 79 #[.string s, .bool true] w (VerbRes w s.data.toList true) := by
  obtain ⟨T, fr, hg⟩ := hV
  go_enter Tryz.func79, Tryz.ntmps79
  go_wp2_with (refine wpList_load_row rfl 148 _ rfl 0 rfl T _ fr _ hg Tryz.underlying148 rfl vsize ?_)
  have HG := Lib.hid hg
  clear hg
  go_loopw [9] (fun i wx => ∃ k : Nat, k ≤ 25 ∧ i = .int .i64 k ∧ Hid (vlookIn vtab s.data.toList = vlookIn (vtab.drop k) s.data.toList ∧ Gr w wx)) (fun i _ => 25 - (intOf i).toNat)
  case atStart => exact ⟨0, by omega, rfl, rfl, Gr.refl _⟩
  case round =>
    obtain ⟨k, hk, rfl, HP⟩ := hrel
    by_cases hlt : k < 25
    · have hi := vindex k hlt
      by_cases hb : (vt k).1 = s.data.toList
      · have hs := str_is hb
        have HX := Lib.hid (show verbR s.data.toList true = (vt k).2.2 by unfold verbR; rw [HP.out.1, vin_cons k hlt, if_pos hb]; rfl)
        go_wp2
        go_quiet (fail)
        go_wp2
        go_ret2
        exact verb_ret HX.out (gr_drewN (gr_alloc HP.out.2 _) _)
      · have hs := str_not hb
        have HX := Lib.hid (show vlookIn vtab s.data.toList = vlookIn (vtab.drop (k + 1)) s.data.toList by rw [HP.out.1, vin_cons k hlt, if_neg hb])
        go_wp2
        go_round
        case rel => exact ⟨k + 1, by omega, by go_num, HX.out, gr_alloc HP.out.2 _⟩
        case measure => simp [intOf]; omega
    · obtain rfl : k = 25 := by omega
      have HX := Lib.hid (show verbR s.data.toList true = 0 by unfold verbR; rw [HP.out.1, vin_end]; rfl)
      go_wp2
      go_ret2
      exact verb_ret HX.out HP.out.2
set_option maxHeartbeats 1000000 in
theorem verb_false (s : ByteArray) (w : World) (hV : LaidV w) : Calls Tryz.prog 79 #[.string s, .bool false] w (VerbRes w s.data.toList false) := by
  obtain ⟨T, fr, hg⟩ := hV
  go_enter Tryz.func79, Tryz.ntmps79
  go_wp2_with (refine wpList_load_row rfl 148 _ rfl 0 rfl T _ fr _ hg Tryz.underlying148 rfl vsize ?_)
  have HG := Lib.hid hg
  clear hg
  go_loopw [9] (fun i wx => ∃ k : Nat, k ≤ 25 ∧ i = .int .i64 k ∧ Hid (vlookIn vtab s.data.toList = vlookIn (vtab.drop k) s.data.toList ∧ Gr w wx)) (fun i _ => 25 - (intOf i).toNat)
  case atStart => exact ⟨0, by omega, rfl, rfl, Gr.refl _⟩
  case round =>
    obtain ⟨k, hk, rfl, HP⟩ := hrel
    by_cases hlt : k < 25
    · have hi := vindex k hlt
      by_cases hb : (vt k).1 = s.data.toList
      · have hs := str_is hb
        have HX := Lib.hid (show verbR s.data.toList false = (vt k).2.1 by unfold verbR; rw [HP.out.1, vin_cons k hlt, if_pos hb]; rfl)
        go_wp2
        go_quiet (fail)
        go_wp2
        go_ret2
        exact verb_ret HX.out (gr_drewN (gr_alloc HP.out.2 _) _)
      · have hs := str_not hb
        have HX := Lib.hid (show vlookIn vtab s.data.toList = vlookIn (vtab.drop (k + 1)) s.data.toList by rw [HP.out.1, vin_cons k hlt, if_neg hb])
        go_wp2
        go_round
        case rel => exact ⟨k + 1, by omega, by go_num, HX.out, gr_alloc HP.out.2 _⟩
        case measure => simp [intOf]; omega
    · obtain rfl : k = 25 := by omega
      have HX := Lib.hid (show verbR s.data.toList false = 0 by unfold verbR; rw [HP.out.1, vin_end]; rfl)
      go_wp2
      go_ret2
      exact verb_ret HX.out HP.out.2

end Go.Proofs.YtbapgdhcbfpdoaaGreatDoor
/- Contracts of package parse: verb, between, fault. -/
namespace Go.Proofs.YtbapgdhcbfpdoaaGreatDoor
open Go.RowKit

theorem LaidV.below {w w' : World} (h : LaidV w) (hb : Below w.heap.size w w') : LaidV w' := by
  obtain ⟨T, fr, h⟩ := h
  have hlt : 0 < w.heap.size := by
    rcases Nat.lt_or_ge 0 w.heap.size with h' | h'
    · exact h'
    · simp [Array.getElem?_eq_none h'] at h
  exact ⟨T, fr, by rw [hb.block _ hlt]; exact h⟩
theorem LaidV.gr {w w' : World} (h : LaidV w) (hb : Gr w w') : LaidV w' := h.below hb.below
theorem Gr.trans {a b c : World} (h : Gr a b) (k : Gr b c) : Gr a c := by
  obtain ⟨n, os, rfl⟩ := h
  obtain ⟨m, os', rfl⟩ := k
  exact ⟨n + m, os ++ os', by simp [Go.Sort.grow, World.drewN, Array.append_assoc]; omega⟩
set_option maxHeartbeats 1000000 in
theorem pverb_any (s : ByteArray) (w : World) (hV : LaidV w) : Calls Tryz.prog 58 #[.string s] w fun e w' => e = .returned (.bool (vb s.data.toList)) ∧ Gr w w' := by
  obtain ⟨a, ha⟩ : ∃ a, a = (verbR s.data.toList false != 0) := ⟨_, rfl⟩
  obtain ⟨b, hb⟩ : ∃ b, b = (verbR s.data.toList true != 0) := ⟨_, rfl⟩
  have h1 := fun w hV => verb_false s w hV
  have h2 := fun w hV => verb_true s w hV
  unfold VerbRes at h1 h2
  rw [← ha] at h1
  rw [← hb] at h2
  have hv := Lib.hid (show vb s.data.toList = (a || b) by rw [ha, hb]; rfl)
  clear ha hb
  cases a <;> cases b
  all_goals
    go_enter Tryz.func58, Tryz.ntmps58
    go_wp2_with (first | (go_at_call 79; with_reducible refine (h1 _ hV).mono ?_; rintro e w1 ⟨rfl, g1⟩) | (go_at_call 79; with_reducible refine (h2 _ (hV.gr g1)).mono ?_; rintro e w2 ⟨rfl, g2⟩))
    go_ret
    exact ⟨ret_bool (by rw [hv.out]; rfl), g1.trans g2⟩
set_option maxHeartbeats 1000000 in
theorem between_any (s : ByteArray) (w : World) (hV : LaidV w) : Calls Tryz.prog 96 #[.string s] w fun e w' => e = .returned (.int .u8 (betw s.data.toList)) ∧ Gr w w' := by
  have h2 := fun w hV => verb_true s w hV
  unfold VerbRes at h2
  obtain ⟨b, hb⟩ : ∃ b, b = verbR s.data.toList true := ⟨_, rfl⟩
  rw [← hb] at h2
  have HB := Lib.hid hb
  clear hb
  by_cases h : 17 < b
  · have hx := Lib.hid (show betw s.data.toList = 0 by unfold betw; rw [← HB.out, if_pos h])
    go_enter Tryz.func96, Tryz.ntmps96
    go_wp2_with (first | (go_at_call 79; with_reducible refine (h2 _ hV).mono ?_; rintro e w2 ⟨rfl, g2⟩))
    go_ret
    exact ⟨by rw [hx.out]; rfl, g2⟩
  · have hx := Lib.hid (show betw s.data.toList = b by unfold betw; rw [← HB.out, if_neg h])
    go_enter Tryz.func96, Tryz.ntmps96
    go_wp2_with (first | (go_at_call 79; with_reducible refine (h2 _ hV).mono ?_; rintro e w2 ⟨rfl, g2⟩))
    go_ret
    exact ⟨by rw [hx.out]; rfl, g2⟩
set_option maxHeartbeats 1000000 in
theorem fault_any (t : Tk) (x : Int) (w : World) : Calls Tryz.prog 22 #[.agg #[.int .i64 t.k, .int .i64 t.a, .string (bs t.w), .int .i64 t.n], .int .i64 x] w fun e w' => e = .returned (.agg #[.int .i64 t.a, .int .i64 x]) ∧ Gr w w' := by
  go_enter Tryz.func22, Tryz.ntmps22
  go_wp2
  refine bodyPost_ret (v := .agg #[.int .i64 t.a, .int .i64 x]) (by simp [results, Tryz.results22, go_sem]) rfl ⟨rfl, gr_alloc (gr_alloc (Gr.refl _) _) _⟩
set_option maxHeartbeats 1000000 in
theorem parse1_any (t : Tk) (w : World) : Calls Tryz.prog 19 #[.agg #[.int .i64 t.k, .int .i64 t.a, .string (bs t.w), .int .i64 t.n]] w fun e w' => e = .returned (.bool (isEnd t)) ∧ Gr w w' := by
  go_enter Tryz.func19, Tryz.ntmps19
  go_wp2
  go_ret
  exact ⟨ret_bool rfl, gr_alloc (Gr.refl _) _⟩
/-! ### names -/
theorem sp_word (w : List UInt8) : (spR ⟨1, 0, w, 0⟩).2 = wordB w := by
  have key : Sp ⟨1, 0, w, 0⟩ ↔ wordB w = true := by
    unfold Sp txt
    simp only [show ¬ ((1 : Int) = 2) by decide, show ¬ ((1 : Int) = 4) by decide, if_false]
    constructor
    · rintro ⟨b, r, rfl, hr, h1, h2, hp⟩
      unfold piece at hp
      rw [h1, if_neg (by simp), if_neg h2] at hp
      split at hp
      · injection hp with e; omega
      split at hp
      · rename_i hb
        split at hp
        · cases hp
        · injection hp with _ _ _ e
          show (letB b && decide (run alnB r = r.length) && decide (r.length ≤ 15)) = true
          rw [hb, e]
          simp
          omega
      split at hp
      · unfold numP at hp; split at hp
        · injection hp with e; omega
        · cases hp
      split at hp
      · unfold numP at hp; split at hp
        · injection hp with e; omega
        · cases hp
      split at hp
      · injection hp with e; omega
      split at hp
      · injection hp with e; omega
      · cases hp
    · intro h
      cases w with
      | nil => cases h
      | cons b r =>
        unfold wordB at h
        simp only [Bool.and_eq_true, decide_eq_true_eq] at h
        obtain ⟨⟨hb, hr⟩, hl⟩ := h
        have hn : b.toNat = 95 ∨ 65 ≤ b.toNat := by
          unfold letB at hb; simp at hb; omega
        have h1 : blB b = false := by unfold blB; simp; omega
        have h2 : b.toNat ≠ 35 := by omega
        have h3 : b.toNat ≠ 10 := by omega
        refine ⟨b, r, rfl, by omega, h1, h2, ?_⟩
        unfold piece
        rw [h1, if_neg (by simp), if_neg h2, if_neg h3, if_pos hb, hr, if_neg (by omega), List.take_length]
  unfold spR
  by_cases h : wordB w = true
  · rw [if_pos (key.2 h), h]
  · rw [if_neg (fun x => h (key.1 x))]
    cases hw : wordB w with
    | false => rfl
    | true => exact (h hw).elim
def LaidP (w : World) : Prop := Laid w ∧ LaidV w
theorem LaidP.below {w w' : World} (h : LaidP w) (hb : Below w.heap.size w w') : LaidP w' := ⟨h.1.below hb, h.2.below hb⟩
theorem str_cmp (s : ByteArray) (l : List UInt8) : (s.toList == (bs l).toList) = decide (s.data.toList = l) := by
  rw [ByteArray.toList_eq, ByteArray.toList_eq, bs_list]
  by_cases h : s.data.toList = l
  · rw [h]; simp
  · rw [decide_eq_false h, beq_eq_false_iff_ne]; exact h
theorem str_ncmp (s : ByteArray) (l : List UInt8) : (s.toList != (bs l).toList) = !decide (s.data.toList = l) := by rw [← str_cmp]; rfl
set_option maxHeartbeats 1000000 in
theorem name_any (s : ByteArray) (w : World) (hL : LaidP w) (hs : s.size ≤ 140737488355320) : Calls Tryz.prog 38 #[.string s] w fun e w' => e = .returned (.bool (nameB s.data.toList)) ∧ Below w.heap.size w w' := by
  have hsp := fun W (h : Laid W) => spell_any ⟨1, 0, s.data.toList, 0⟩ W h ⟨⟨by show (-9223372036854775808 : Int) ≤ 0; omega, by show (0 : Int) ≤ 9223372036854775807; omega⟩, by rw [len_s]; exact hs⟩
  unfold SpRes at hsp
  rw [sp_word] at hsp
  have hpv := fun W (h : LaidV W) => pverb_any s W h
  rw [bs_of] at hsp
  obtain ⟨S, hS⟩ : ∃ S, S = bs (spR ⟨1, 0, s.data.toList, 0⟩).1 := ⟨_, rfl⟩
  rw [← hS] at hsp
  clear hS
  have hn : nameB s.data.toList = (wordB s.data.toList && !vb s.data.toList && !decide (s.toList = [105, 110]) && !decide (s.toList = [111, 117, 116])) := by
    rw [ByteArray.toList_eq]
    unfold nameB
    congr 1
    · congr 1
      by_cases h : s.data.toList = [105, 110] <;> simp [h, bne]
    · by_cases h : s.data.toList = [111, 117, 116] <;> simp [h, bne]
  obtain ⟨x1, h1⟩ : ∃ x, x = wordB s.data.toList := ⟨_, rfl⟩
  obtain ⟨x2, h2⟩ : ∃ x, x = vb s.data.toList := ⟨_, rfl⟩
  rw [← h1, ← h2] at hn
  rw [← h1] at hsp
  rw [← h2] at hpv
  clear h1 h2
  have hn1 : s.toList = [105, 110] → nameB s.data.toList = false := fun h => by rw [hn, decide_eq_true h]; simp
  have hn2 : s.toList = [111, 117, 116] → nameB s.data.toList = false := fun h => by rw [hn, decide_eq_true h]; simp
  have hn3 : ¬ s.toList = [105, 110] → ¬ s.toList = [111, 117, 116] → nameB s.data.toList = (x1 && !x2) := fun h h' => by rw [hn, decide_eq_false h, decide_eq_false h']; simp
  clear hn
  by_cases c1 : s.toList = [105, 110]
  · have HN := Lib.hid (hn1 c1)
    clear hn1 hn2 hn3
    cases x1 <;> cases x2
    all_goals
      go_enter Tryz.func38, Tryz.ntmps38
      go_wp2_with (first | (go_at_call 57; refine (hsp _ hL.1).mono ?_; rintro e w1 ⟨rfl, g1⟩) | (go_at_call 58; refine (hpv _ (hL.2.below g1)).mono ?_; rintro e w2 ⟨rfl, g2⟩))
      go_ret
      first
        | exact ⟨ret_bool (by rw [HN.out]), g1.trans (g2.below.mono g1.size)⟩
        | exact ⟨ret_bool (by rw [HN.out]), g1⟩
  · by_cases c2 : s.toList = [111, 117, 116]
    · have HN := Lib.hid (hn2 c2)
      clear hn1 hn2 hn3
      cases x1 <;> cases x2
      all_goals
        go_enter Tryz.func38, Tryz.ntmps38
        go_wp2_with (first | (go_at_call 57; refine (hsp _ hL.1).mono ?_; rintro e w1 ⟨rfl, g1⟩) | (go_at_call 58; refine (hpv _ (hL.2.below g1)).mono ?_; rintro e w2 ⟨rfl, g2⟩))
        go_ret
        first
          | exact ⟨ret_bool (by rw [HN.out]), g1.trans (g2.below.mono g1.size)⟩
          | exact ⟨ret_bool (by rw [HN.out]), g1⟩
    · have HN := Lib.hid (hn3 c1 c2)
      clear hn1 hn2 hn3
      cases x1 <;> cases x2
      all_goals
        go_enter Tryz.func38, Tryz.ntmps38
        go_wp2_with (first | (go_at_call 57; refine (hsp _ hL.1).mono ?_; rintro e w1 ⟨rfl, g1⟩) | (go_at_call 58; refine (hpv _ (hL.2.below g1)).mono ?_; rintro e w2 ⟨rfl, g2⟩))
        go_ret
        first
          | exact ⟨ret_bool (by rw [HN.out]; first | rfl | simp [c1, c2]), g1.trans (g2.below.mono g1.size)⟩
          | exact ⟨ret_bool (by rw [HN.out]; first | rfl | simp [c1, c2]), g1⟩
end Go.Proofs.YtbapgdhcbfpdoaaGreatDoor
/- Frames: what a step leaves as it was; the reader's state. -/
namespace Go.Proofs.YtbapgdhcbfpdoaaGreatDoor
open Go.RowKit

/-! ### frames -/
structure Fr (S : Nat → Prop) (w w' : World) : Prop where
  os : w'.os = w.os
  tape : w'.tape = w.tape
  output : w'.output = w.output
  size : w.heap.size ≤ w'.heap.size
  block : ∀ k, k < w.heap.size → ¬ S k → w'.heap[k]? = w.heap[k]?
theorem Fr.refl (S : Nat → Prop) (w : World) : Fr S w w := ⟨rfl, rfl, rfl, Nat.le_refl _, fun _ _ _ => rfl⟩
theorem Fr.trans' {S T : Nat → Prop} {a b c : World} (h : Fr S a b) (k : Fr T b c) (hT : ∀ i, T i → S i ∨ a.heap.size ≤ i) : Fr S a c :=
  ⟨k.os.trans h.os, k.tape.trans h.tape, k.output.trans h.output, Nat.le_trans h.size k.size, fun i hi hs => (k.block i (Nat.lt_of_lt_of_le hi h.size) (fun ht => by
    rcases hT i ht with h1 | h1
    · exact hs h1
    · omega)).trans (h.block i hi hs)⟩
theorem Fr.trans {S : Nat → Prop} {a b c : World} (h : Fr S a b) (k : Fr S b c) : Fr S a c := h.trans' k fun _ h => .inl h
theorem Fr.weak {S T : Nat → Prop} {w w' : World} (h : Fr S w w') (hT : ∀ i, i < w.heap.size → S i → T i) : Fr T w w' :=
  ⟨h.os, h.tape, h.output, h.size, fun i hi ht => h.block i hi fun hs => ht (hT i hi hs)⟩
theorem below_fr {w w' : World} (h : Below w.heap.size w w') (S : Nat → Prop) : Fr S w w' := ⟨h.os, h.tape, h.output, h.size, fun k hk _ => h.block k hk⟩
theorem Fr.below {S : Nat → Prop} {w w' : World} (h : Fr S w w') {B : Nat} (hB : B ≤ w.heap.size) (hS : ∀ k, S k → B ≤ k) : Below B w w' :=
  ⟨h.os, h.tape, h.output, h.size, fun k hk => h.block k (by omega) fun hs => by have := hS k hs; omega⟩
theorem Fr.grown {w w' : World} {row : Option Nat} (h : w.grownBy w' row) (S : Nat → Prop) (hS : ∀ k, row = some k → S k) : Fr S w w' :=
  ⟨h.os, h.tape, h.output, h.size, fun k hk hs => h.block k hk fun e => hs (hS k e.symm)⟩
theorem Fr.set {S : Nat → Prop} {w w' : World} (h : Fr S w w') {b : Nat} (hb : S b ∨ w.heap.size ≤ b) (o : Nat) (v : Value) : Fr S w (w'.setCell ⟨b, o, none⟩ v) := by
  have hB : Below b w' (w'.setCell ⟨b, o, none⟩ v) := (Below.refl b w').setCell (p := ⟨b, o, none⟩) (Nat.le_refl _) v
  refine h.trans' (T := fun k => k = b) ⟨hB.os, hB.tape, hB.output, hB.size, fun k hk hs => heap_set_other hs⟩ fun i hi => by subst hi; exact hb
where
  heap_set_other {w : World} {k b o : Nat} {v : Value} (h : ¬ k = b) : (w.setCell ⟨b, o, none⟩ v).heap[k]? = w.heap[k]? := by
    have hb : ¬ b = k := fun e => h e.symm
    unfold World.setCell
    split <;> simp [Array.getElem?_modify, hb]
theorem Fr.alloc {S : Nat → Prop} {w w' : World} (h : Fr S w w') (o : Obj) : Fr S w (w'.alloc o) := h.trans' (T := fun _ => False) (below_fr ((Below.refl _ _).alloc (Nat.le_refl _) o) _) fun _ h => h.elim
theorem Fr.gr {S : Nat → Prop} {w w1 w2 : World} (h : Fr S w w1) (k : Gr w1 w2) : Fr S w w2 := h.trans (below_fr k.below _)
theorem Fr.drewN {S : Nat → Prop} {w w' : World} (h : Fr S w w') (n : Nat) : Fr S w (w'.drewN n) := h.gr ⟨n, #[], by rw [Go.Sort.grow_empty]⟩
/-- A row that is the old one, or that lies in a new block. -/
def NR (n : Nat) (v v' : Value) : Prop := ∀ k, v'.ownBlock = some k → v.ownBlock = some k ∨ n ≤ k
theorem NR.refl (n : Nat) (v : Value) : NR n v v := fun _ h => .inl h
theorem NR.trans {n m : Nat} {a b c : Value} (h : NR n a b) (k : NR m b c) (hm : n ≤ m) : NR n a c := fun i hi => by
  rcases k i hi with h1 | h1
  · exact h i h1
  · right; omega
theorem rows_ne {w : World} {b1 b2 s1 s2 n1 n2 : Nat} {e1 e2 : TypeId} {v1 v2 : Value} {x1 x2 : List Value} (h1 : w.ownsRow b1 e1 s1 v1 n1 x1) (h2 : w.ownsRow b2 e2 s2 v2 n2 x2) (hne : e1 ≠ e2) {k : Nat} (h : v1.ownBlock = some k) : v2.ownBlock ≠ some k := by
  rcases h1.2 with ⟨rfl, _⟩ | ⟨g1, c1, cur1, rfl, _, hh1, _⟩
  · simp [Value.ownBlock] at h
  · rcases h2.2 with ⟨rfl, _⟩ | ⟨g2, c2, cur2, rfl, _, hh2, _⟩
    · simp [Value.ownBlock]
    · intro e
      simp [Value.ownBlock] at e h
      subst e h
      rw [hh1] at hh2
      simp at hh2
      exact hne hh2.2
/-- A row of one's own lies on as long as its block does. -/
theorem row_keep {w w' : World} {base base' size n : Nat} {e : TypeId} {v : Value} {xs : List Value} (h : w.ownsRow base e size v n xs) (hb : ∀ k, v.ownBlock = some k → k < w.heap.size → w'.heap[k]? = w.heap[k]?) (hbase : base' ≤ base) : w'.ownsRow base' e size v n xs := by
  obtain ⟨h0, h1 | ⟨g, cap, cur, rfl, hg, hh, h2⟩⟩ := h
  · exact ⟨h0, .inl h1⟩
  · refine ⟨h0, .inr ⟨g, cap, cur, rfl, Nat.le_trans hbase hg, ?_, h2⟩⟩
    rw [hb g rfl ?_]
    · exact hh
    · rcases Nat.lt_or_ge g w.heap.size with h | h
      · exact h
      · rw [Array.getElem?_eq_none h] at hh; cases hh
theorem row_shape {w : World} {base size n : Nat} {e : TypeId} {v : Value} {xs : List Value} (h : w.ownsRow base e size v n xs) : ∃ A c, v = .slice A n c ∧ n ≤ c := by
  obtain ⟨_, ⟨rfl, h0⟩ | ⟨g, cap, cur, rfl, _, _, hc, _⟩⟩ := h
  · exact ⟨none, 0, by rw [h0], by omega⟩
  · exact ⟨_, _, rfl, hc⟩
theorem row_base {w : World} {base size n k : Nat} {e : TypeId} {v : Value} {xs : List Value} (h : w.ownsRow base e size v n xs) (hk : v.ownBlock = some k) : base ≤ k ∧ k < w.heap.size := by
  obtain ⟨_, ⟨rfl, h0⟩ | ⟨g, cap, cur, rfl, hg, hh, _⟩⟩ := h
  · simp [Value.ownBlock] at hk
  · simp [Value.ownBlock] at hk
    subst hk
    refine ⟨hg, ?_⟩
    rcases Nat.lt_or_ge g w.heap.size with h | h
    · exact h
    · rw [Array.getElem?_eq_none h] at hh; cases hh
/-- The row's first ones. -/
theorem row_pop {w : World} {base size n m c : Nat} {e : TypeId} {A : Option Addr} {xs ys : List Value} (h : w.ownsRow base e size (.slice A n c) n (xs ++ ys)) (hx : xs.length = m * size) (hm : m ≤ n) : w.ownsRow base e size (.slice A m c) m xs := by
  obtain ⟨h0, ⟨h1, h1'⟩ | ⟨g, cap, cur, h1, hg, hh, hc, hM, hs, ht⟩⟩ := h
  · injection h1 with e1 e2 e3
    subst e1 e2 e3
    obtain rfl : m = 0 := by omega
    exact ⟨hx, .inl ⟨rfl, rfl⟩⟩
  · injection h1 with e1 e2 e3
    subst e1 e3
    refine ⟨hx, .inr ⟨g, c, cur, rfl, hg, hh, by omega, hM, hs, ?_⟩⟩
    have h2 := congrArg (List.take (m * size)) ht
    rw [List.take_take, Nat.min_eq_left (Nat.mul_le_mul_right _ hm), List.take_left' hx] at h2
    exact h2

/-! ### items in memory -/
/-- An item, and where its numbers lie. -/
structure IM where
  it : It
  A : Option Addr
  c : Nat
def IM.cells (m : IM) : List Value := [.int .i64 m.it.how, .int .i64 m.it.pl, .int .u8 m.it.fn, .string (bs m.it.nm), .slice m.A m.it.ns.length m.c]
def RdN (w : World) (ok : Nat → Prop) (A : Option Addr) (ns : List Int) : Prop := 0 < ns.length → ∃ b o, A = some ⟨b, o, none⟩ ∧ (ok b ∧ ∃ cs fr, w.heap[b]? = some (.cells cs 2 fr)) ∧ ∀ i, i < ns.length → w.cell? ⟨b, o + i, none⟩ = some (.int .i64 (ns.getD i 0))
theorem RdN.nil (w : World) (ok : Nat → Prop) (A : Option Addr) : RdN w ok A [] := fun h => by simp at h
theorem RdN.mono {w w' : World} {ok ok' : Nat → Prop} {A : Option Addr} {ns : List Int} (h : RdN w ok A ns) (hk : ∀ b, ok b → ok' b ∧ w'.heap[b]? = w.heap[b]?) : RdN w' ok' A ns := fun hl => by
  obtain ⟨b, o, e, ⟨h1, cs, fr, h3⟩, h2⟩ := h hl
  exact ⟨b, o, e, ⟨(hk b h1).1, cs, fr, by rw [(hk b h1).2]; exact h3⟩, fun i hi => by rw [World.cell?_of_block (a := ⟨b, o + i, none⟩) (hk b h1).2]; exact h2 i hi⟩
/-- An item whose function is still to be called: its closure's variables lie in blocks P (the item) and Q (the reader's address). -/
structure TE where
  m : IM
  Q : Nat
  P : Nat
def tval : Option TE → Value
  | none => .nilFunc
  | some e => .func (.func 97) #[] #[.pointer (some ⟨e.Q, 0, none⟩), .pointer (some ⟨e.P, 0, none⟩)]
def titem (x : Option TE) : Option It := x.map (·.m.it)
def Mu (R : Nat) (vi vt : Value) (k : Nat) : Prop := k = R ∨ vi.ownBlock = some k ∨ vt.ownBlock = some k
def Sf (w : World) (R : Nat) (vi vt : Value) (k : Nat) : Prop := k < w.heap.size ∧ ¬ Mu R vi vt k
theorem Sf.next {w w' : World} {R : Nat} {vi vt vi' vt' : Value} {k : Nat} (h : Sf w R vi vt k) (hs : w.heap.size ≤ w'.heap.size) (hi : NR w.heap.size vi vi') (ht : NR w.heap.size vt vt') : Sf w' R vi' vt' k := by
  refine ⟨Nat.lt_of_lt_of_le h.1 hs, ?_⟩
  rintro (h1 | h1 | h1)
  · exact h.2 (.inl h1)
  · rcases hi k h1 with h2 | h2
    · exact h.2 (.inr (.inl h2))
    · have := h.1; omega
  · rcases ht k h1 with h2 | h2
    · exact h.2 (.inr (.inr h2))
    · have := h.1; omega
structure Clo (w : World) (R : Nat) (vi vt : Value) (e : TE) : Prop where
  sp : Sf w R vi vt e.P
  sq : Sf w R vi vt e.Q
  hq : w.heap[e.Q]? = some (.cells #[.pointer (some ⟨R, 0, none⟩)] 144 (0, 0))
  hp : w.heap[e.P]? = some (.cells e.m.cells.toArray 37 (0, 0))
  num : RdN w (Sf w R vi vt) e.m.A e.m.it.ns
/-- What a reader's block and what hangs on it hold. -/
structure RS (w : World) (R b o c : Nat) (k : Int) (ts : List Tk) (ms : List IM) (tm : List (Option TE)) (vi vt : Value) : Prop where
  blk : w.heap[R]? = some (.cells #[.slice (some ⟨b, o, none⟩) ts.length c, vi, vt, .int .i64 k] 121 (0, 0))
  cap : ts.length ≤ c
  sb : Sf w R vi vt b
  tok : ∀ i, i < ts.length → Cells4 w b (o + i * 4) (nth ts i)
  own : w.ownsRow (R + 1) 37 5 vi ms.length (ms.flatMap IM.cells)
  owt : w.ownsRow (R + 1) 1 1 vt tm.length (tm.reverse.map tval)
  num : ∀ m ∈ ms, RdN w (Sf w R vi vt) m.A m.it.ns
  clo : ∀ e, some e ∈ tm → Clo w R vi vt e
  bnd : ms.length + tm.length + ts.length ≤ 1000000
  tb : ∃ cs fr, w.heap[b]? = some (.cells cs 56 fr)
theorem cells4_keep {w w' : World} {b o : Nat} {t : Tk} (h : Cells4 w b o t) (hb : w'.heap[b]? = w.heap[b]?) : Cells4 w' b o t := by
  unfold Cells4 at *
  have e : ∀ o, w'.cell? ⟨b, o, none⟩ = w.cell? ⟨b, o, none⟩ := fun o => World.cell?_of_block (a := ⟨b, o, none⟩) hb
  simp only [e]
  exact h
theorem Clo.next {w w' : World} {R : Nat} {vi vt vi' vt' : Value} {e : TE} (h : Clo w R vi vt e) (hF : Fr (Mu R vi vt) w w') (hi : NR w.heap.size vi vi') (ht : NR w.heap.size vt vt') : Clo w' R vi' vt' e where
  sp := h.sp.next hF.size hi ht
  sq := h.sq.next hF.size hi ht
  hq := by rw [hF.block _ h.sq.1 h.sq.2]; exact h.hq
  hp := by rw [hF.block _ h.sp.1 h.sp.2]; exact h.hp
  num := h.num.mono fun k hk => ⟨hk.next hF.size hi ht, hF.block _ hk.1 hk.2⟩
theorem RS.next {w w' : World} {R b o c : Nat} {k : Int} {ts : List Tk} {ms : List IM} {tm : List (Option TE)} {vi vt : Value} (h : RS w R b o c k ts ms tm vi vt) (hF : Fr (Mu R vi vt) w w')
    {o' c' : Nat} {k' : Int} {ts' us : List Tk} {ms' : List IM} {tm' : List (Option TE)} {vi' vt' : Value} (hi : NR w.heap.size vi vi') (ht : NR w.heap.size vt vt')
    (blk : w'.heap[R]? = some (.cells #[.slice (some ⟨b, o', none⟩) ts'.length c', vi', vt', .int .i64 k'] 121 (0, 0))) (cap : ts'.length ≤ c') (hts : ts = us ++ ts') (ho : o' = o + us.length * 4)
    (own : w'.ownsRow (R + 1) 37 5 vi' ms'.length (ms'.flatMap IM.cells)) (owt : w'.ownsRow (R + 1) 1 1 vt' tm'.length (tm'.reverse.map tval))
    (hm : ∀ m ∈ ms', m ∈ ms ∨ RdN w' (Sf w' R vi' vt') m.A m.it.ns) (hc : ∀ e, some e ∈ tm' → some e ∈ tm ∨ Clo w' R vi' vt' e) (bnd : ms'.length + tm'.length + ts'.length ≤ 1000000) : RS w' R b o' c' k' ts' ms' tm' vi' vt' where
  blk := blk
  cap := cap
  sb := h.sb.next hF.size hi ht
  tok := fun i hl => by
    have h1 := h.tok (us.length + i) (by rw [hts, List.length_append]; omega)
    have e : nth ts (us.length + i) = nth ts' i := by
      unfold nth
      rw [hts, List.getD_eq_getElem?_getD, List.getD_eq_getElem?_getD, List.getElem?_append_right (by omega), Nat.add_sub_cancel_left]
    rw [e] at h1
    rw [ho, show o + us.length * 4 + i * 4 = o + (us.length + i) * 4 by omega]
    exact cells4_keep h1 (hF.block _ h.sb.1 h.sb.2)
  own := own
  owt := owt
  num := fun m hmm => by
    rcases hm m hmm with h1 | h1
    · exact (h.num m h1).mono fun k hk => ⟨hk.next hF.size hi ht, hF.block _ hk.1 hk.2⟩
    · exact h1
  clo := fun e he => by
    rcases hc e he with h1 | h1
    · exact (h.clo e h1).next hF hi ht
    · exact h1
  bnd := bnd
  tb := by
    obtain ⟨cs, fr, e⟩ := h.tb
    exact ⟨cs, fr, by rw [hF.block _ h.sb.1 h.sb.2]; exact e⟩
theorem RS.cells {w : World} {R b o c : Nat} {k : Int} {ts : List Tk} {ms : List IM} {tm : List (Option TE)} {vi vt : Value} (h : RS w R b o c k ts ms tm vi vt) :
    w.cell? ⟨R, 0, none⟩ = some (.slice (some ⟨b, o, none⟩) ts.length c) ∧ w.cell? ⟨R, 1, none⟩ = some vi ∧ w.cell? ⟨R, 2, none⟩ = some vt ∧ w.cell? ⟨R, 3, none⟩ = some (.int .i64 k) ∧ ∀ o, w.frozen? ⟨R, o, none⟩ = false :=
  ⟨by rw [cell_of_row _ _ _ _ _ _ h.blk]; rfl, by rw [cell_of_row _ _ _ _ _ _ h.blk]; rfl, by rw [cell_of_row _ _ _ _ _ _ h.blk]; rfl, by rw [cell_of_row _ _ _ _ _ _ h.blk]; rfl, fun o => frozen_of_row _ _ _ _ _ h.blk⟩
theorem RS.lt {w : World} {R b o c : Nat} {k : Int} {ts : List Tk} {ms : List IM} {tm : List (Option TE)} {vi vt : Value} (h : RS w R b o c k ts ms tm vi vt) : R < w.heap.size := by
  rcases Nat.lt_or_ge R w.heap.size with h1 | h1
  · exact h1
  · have := h.blk; rw [Array.getElem?_eq_none h1] at this; cases this
theorem NR.of {n g : Nat} {v : Value} {A : Option Addr} {m c : Nat} (h : v.ownBlock = some g ∨ n ≤ g) (hA : A = some ⟨g, 0, none⟩) : NR n v (.slice A m c) := fun k hk => by
  subst hA
  simp [Value.ownBlock] at hk
  subst hk
  exact h
/-- An item more. -/
theorem RS.pushed {w w0 w1 : World} {R b o c : Nat} {k : Int} {ts : List Tk} {ms : List IM} {tm : List (Option TE)} {vi vt : Value} (h : RS w R b o c k ts ms tm vi vt) (m : IM) (hm : RdN w (Sf w R vi vt) m.A m.it.ns) (hb : Below w.heap.size w w0) {g cap : Nat}
    (hown : w1.ownsRow (R + 1) 37 5 (.slice (some ⟨g, 0, none⟩) (ms.length + 1) cap) (ms.length + 1) (ms.flatMap IM.cells ++ m.cells)) (hgrow : w0.grownBy w1 vi.ownBlock) (hat : vi.ownBlock = some g ∨ w.heap.size ≤ g) (hn : ms.length + 1 + tm.length + ts.length ≤ 1000000) :
    RS (w1.setCell ⟨R, 1, none⟩ (.slice (some ⟨g, 0, none⟩) (ms.length + 1) cap)) R b o c k ts (ms ++ [m]) tm (.slice (some ⟨g, 0, none⟩) (ms.length + 1) cap) vt ∧ NR w.heap.size vi (.slice (some ⟨g, 0, none⟩) (ms.length + 1) cap) ∧ Fr (Mu R vi vt) w (w1.setCell ⟨R, 1, none⟩ (.slice (some ⟨g, 0, none⟩) (ms.length + 1) cap)) := by
  have F1 : Fr (fun k => k = R ∨ vi.ownBlock = some k) w w1 := (below_fr hb _).trans (Fr.grown hgrow _ fun k hk => .inr hk)
  have F0 := F1.set (.inl (.inl rfl) : (R = R ∨ vi.ownBlock = some R) ∨ _) 1 (.slice (some ⟨g, 0, none⟩) (ms.length + 1) cap)
  have F2 := F0.weak (T := Mu R vi vt) fun i _ hi => hi.elim .inl fun h => .inr (.inl h)
  have hR : w1.heap[R]? = w.heap[R]? := (hgrow.block R (Nat.lt_of_lt_of_le h.lt hb.size) (fun e => by have := (row_base h.own e.symm).1; omega)).trans (hb.block R h.lt)
  have hg := (row_base hown (k := g) rfl).1
  have N := NR.of (m := ms.length + 1) (c := cap) hat rfl
  refine ⟨h.next (us := []) F2 N (NR.refl _ _) (by rw [heap_setCell_same _ _ _ _ _ _ (hR.trans h.blk)]; rfl) h.cap rfl (by simp) ?_ ?_ ?_ (fun e he => .inl he) (by simp; omega), N, F2⟩
  · rw [List.length_append, List.flatMap_append]
    simp only [List.length_cons, List.length_nil, List.flatMap_cons, List.flatMap_nil, List.append_nil]
    exact ownsRow_setCell_other (a := ⟨R, 1, none⟩) hown (by simp [Value.ownBlock]; omega) _
  · exact row_keep h.owt (fun k hk hl => F0.block k hl (by
      rintro (h1 | h1)
      · have := (row_base h.owt hk).1; omega
      · exact rows_ne h.own h.owt (by decide) h1 hk)) (Nat.le_refl _)
  · intro x hx
    rw [List.mem_append] at hx
    rcases hx with hx | hx
    · exact .inl hx
    · simp at hx
      subst hx
      exact .inr (hm.mono fun k hk => ⟨hk.next F2.size N (NR.refl _ _), F2.block k hk.1 hk.2⟩)
/-- A fault's variable is none of the reader's blocks. -/
theorem RS.setF {w : World} {R b o c : Nat} {k : Int} {ts : List Tk} {ms : List IM} {tm : List (Option TE)} {vi vt : Value} (h : RS w R b o c k ts ms tm vi vt) {F : Nat} {cs : Array Value} {fr : Nat × Nat} (hF : w.heap[F]? = some (.cells cs 41 fr)) (j : Nat) (v : Value) : RS (w.setCell ⟨F, j, none⟩ v) R b o c k ts ms tm vi vt := by
  have hz : ∀ k, k < w.heap.size → k < (w.setCell ⟨F, j, none⟩ v).heap.size := fun k hk => by simpa using hk
  have hne : ∀ {b : Nat} {cs' : Array Value} {T : TypeId} {fr' : Nat × Nat}, w.heap[b]? = some (.cells cs' T fr') → T ≠ 41 → (w.setCell ⟨F, j, none⟩ v).heap[b]? = w.heap[b]? := fun {b cs' T fr'} hb hT => Fr.set.heap_set_other (by
    rintro rfl
    rw [hF] at hb
    simp at hb
    exact hT hb.2.1.symm)
  have hrow : ∀ {base base' size n : Nat} {e : TypeId} {x : Value} {xs : List Value}, w.ownsRow base e size x n xs → e ≠ 41 → (w.setCell ⟨F, j, none⟩ v).ownsRow base e size x n xs := fun {base base' size n e x xs} hx he => ownsRow_setCell_other (a := ⟨F, j, none⟩) hx (fun e' => by
    rcases hx.2 with ⟨rfl, _⟩ | ⟨g, cap, cur, rfl, _, hh, _⟩
    · simp [Value.ownBlock] at e'
    · simp [Value.ownBlock] at e'
      subst e'
      rw [hF] at hh
      simp at hh
      exact he hh.2.1.symm) v
  have hnum : ∀ {A : Option Addr} {ns : List Int}, RdN w (Sf w R vi vt) A ns → RdN (w.setCell ⟨F, j, none⟩ v) (Sf (w.setCell ⟨F, j, none⟩ v) R vi vt) A ns := fun {A ns} hn hl => by
    obtain ⟨b, o, e, ⟨h1, cs', fr', h3⟩, h2⟩ := hn hl
    have e3 := hne h3 (by decide)
    exact ⟨b, o, e, ⟨⟨hz _ h1.1, h1.2⟩, cs', fr', e3.trans h3⟩, fun i hi => by rw [World.cell?_of_block (a := ⟨b, o + i, none⟩) e3]; exact h2 i hi⟩
  obtain ⟨tcs, tfr, tb⟩ := h.tb
  refine ⟨(hne h.blk (by decide)).trans h.blk, h.cap, ⟨hz _ h.sb.1, h.sb.2⟩, fun i hi => cells4_keep (h.tok i hi) (hne tb (by decide)), hrow (base' := 0) h.own (by decide), hrow (base' := 0) h.owt (by decide), fun m hm => hnum (h.num m hm), fun e he => ?_, h.bnd, tcs, tfr, (hne tb (by decide)).trans tb⟩
  have hc := h.clo e he
  exact ⟨⟨hz _ hc.sp.1, hc.sp.2⟩, ⟨hz _ hc.sq.1, hc.sq.2⟩, (hne hc.hq (by decide)).trans hc.hq, (hne hc.hp (by decide)).trans hc.hp, hnum hc.num⟩
end Go.Proofs.YtbapgdhcbfpdoaaGreatDoor
/- Contracts of the reader's small methods: take, mark. -/
namespace Go.Proofs.YtbapgdhcbfpdoaaGreatDoor
open Go.RowKit

/-- What a step of the reader answers: the value, and its state. -/
def Tak (w : World) (R b o c : Nat) (k : Int) (ts : List Tk) (ms : List IM) (tm : List (Option TE)) (vi vt : Value) (v : Value) (e : Ending) (w' : World) : Prop :=
  e = .returned v ∧ RS w' R b o c k ts ms tm vi vt ∧ Fr (fun k => k = R) w w'
theorem RS.head {w : World} {R b o c : Nat} {k : Int} {t : Tk} {ts : List Tk} {ms : List IM} {tm : List (Option TE)} {vi vt : Value} (h : RS w R b o c k (t :: ts) ms tm vi vt) : Cells4 w b o t := by
  have := h.tok 0 (by simp)
  rw [Nat.zero_mul, Nat.add_zero] at this
  exact this
theorem RS.head2 {w : World} {R b o c : Nat} {k : Int} {t u : Tk} {ts : List Tk} {ms : List IM} {tm : List (Option TE)} {vi vt : Value} (h : RS w R b o c k (t :: u :: ts) ms tm vi vt) : Cells4 w b (o + 4) u := h.tok 1 (by simp)
theorem RS.keep {w w' : World} {R b o c : Nat} {k : Int} {ts : List Tk} {ms : List IM} {tm : List (Option TE)} {vi vt : Value} (h : RS w R b o c k ts ms tm vi vt) (hb : Below w.heap.size w w') : RS w' R b o c k ts ms tm vi vt :=
  h.next (us := []) (below_fr hb _) (NR.refl _ _) (NR.refl _ _) (by rw [hb.block _ h.lt]; exact h.blk) h.cap rfl (by simp)
    (row_keep h.own (fun k _ hk => hb.block k hk) (Nat.le_refl _)) (row_keep h.owt (fun k _ hk => hb.block k hk) (Nat.le_refl _)) (fun m hm => .inl hm) (fun e he => .inl he) h.bnd
theorem RS.alloc {w : World} {R b o c : Nat} {k : Int} {ts : List Tk} {ms : List IM} {tm : List (Option TE)} {vi vt : Value} (h : RS w R b o c k ts ms tm vi vt) (x : Obj) : RS (w.alloc x) R b o c k ts ms tm vi vt := h.keep ((Below.refl _ _).alloc (Nat.le_refl _) _)
theorem rowR {w w' : World} {R size n : Nat} {e : TypeId} {v : Value} {xs : List Value} (h : w.ownsRow (R + 1) e size v n xs) (hF : Fr (fun k => k = R) w w') : w'.ownsRow (R + 1) e size v n xs :=
  row_keep h (fun k hk hl => hF.block k hl fun e => by have := (row_base h hk).1; omega) (Nat.le_refl _)
theorem RS.took {w : World} {R b o c : Nat} {k : Int} {t : Tk} {ts : List Tk} {ms : List IM} {tm : List (Option TE)} {vi vt : Value} (h : RS w R b o c k (t :: ts) ms tm vi vt) : RS (w.setCell ⟨R, 0, none⟩ (.slice (some ⟨b, o + 4, none⟩) ts.length (c - 1))) R b (o + 4) (c - 1) k ts ms tm vi vt := by
  have hF : Fr (fun k => k = R) w (w.setCell ⟨R, 0, none⟩ (.slice (some ⟨b, o + 4, none⟩) ts.length (c - 1))) := (Fr.refl (fun k => k = R) _).set (.inl rfl) _ _
  have hcap := h.cap
  have hbnd := h.bnd
  simp only [List.length_cons] at hcap hbnd
  exact h.next (us := [t]) (hF.weak fun i _ hi => .inl hi) (NR.refl _ _) (NR.refl _ _) (by rw [heap_setCell_same _ _ _ _ _ _ h.blk]; rfl) (by omega) rfl (by simp) (rowR h.own hF) (rowR h.owt hF) (fun m hm => .inl hm) (fun e he => .inl he) (by omega)
set_option maxHeartbeats 1000000 in
theorem take_any (w : World) (R b o c : Nat) (k : Int) (t : Tk) (ts : List Tk) (ms : List IM) (tm : List (Option TE)) (vi vt : Value) (h : RS w R b o c k (t :: ts) ms tm vi vt) (hne : 0 < ts.length) : Calls Tryz.prog 77 #[.pointer (some ⟨R, 0, none⟩)] w (Tak w R b (o + 4) (c - 1) k ts ms tm vi vt (.agg #[.int .i64 t.k, .int .i64 t.a, .string (bs t.w), .int .i64 t.n])) := by
  obtain ⟨c0, c1, c2, c3, f0⟩ := h.cells
  have hlt := h.lt
  obtain ⟨t0, t1, t2, t3⟩ := h.head
  have hb := h.sb.1
  have hcap := h.cap
  have hbnd := h.bnd
  simp only [List.length_cons] at c0 hcap hbnd
  have HS := Lib.hid h
  clear h
  have hfr := f0 0
  clear f0
  go_enter Tryz.func77, Tryz.ntmps77
  go_wp2
  exact bodyPost_ret (v := .agg #[.int .i64 t.k, .int .i64 t.a, .string (bs t.w), .int .i64 t.n]) (by simp [results, Tryz.results77, go_sem]) rfl ⟨rfl, (HS.out.took.alloc _).alloc _, (((Fr.refl (fun k => k = R) _).set (.inl rfl) _ _).alloc _).alloc _⟩
theorem fieldW (t : Tk) (w : World) : (Instr.field 56 (.agg #[.int .i64 t.k, .int .i64 t.a, .string (bs t.w), .int .i64 t.n]) 2).run Tryz.prog w = .ok (.string (bs t.w)) w := by kernel_rfl
theorem fieldN (t : Tk) (w : World) : (Instr.field 56 (.agg #[.int .i64 t.k, .int .i64 t.a, .string (bs t.w), .int .i64 t.n]) 3).run Tryz.prog w = .ok (.int .i64 t.n) w := by kernel_rfl
theorem cmpB (w x : List UInt8) : ((bs w).toList == x) = decide (w = x) := by
  rw [ByteArray.toList_eq, bs_list]
  by_cases h : w = x
  · rw [h]; simp
  · rw [decide_eq_false h, beq_eq_false_iff_ne]; exact h
theorem cmpYes {w x : List UInt8} (h : w = x) : ((bs w).toList == x) = true := by rw [cmpB, decide_eq_true h]
theorem cmpNo {w x : List UInt8} (h : ¬ w = x) : ((bs w).toList == x) = false := by rw [cmpB, decide_eq_false h]
set_option maxHeartbeats 1000000 in
set_option maxRecDepth 10000 in
theorem mark_yes (w : World) (R b o c : Nat) (k : Int) (t : Tk) (ts : List Tk) (ms : List IM) (tm : List (Option TE)) (vi vt : Value) (h : RS w R b o c k (t :: ts) ms tm vi vt) (hne : 0 < ts.length) (hm : t.w = [47] ∨ t.w = [92] ∨ t.w = [46]) : Calls Tryz.prog 95 #[.pointer (some ⟨R, 0, none⟩)] w (Tak w R b (o + 4) (c - 1) k ts ms tm vi vt (.string (bs t.w))) := by
  obtain ⟨c0, c1, c2, c3, f0⟩ := h.cells
  have hlt := h.lt
  obtain ⟨t0, t1, t2, t3⟩ := h.head
  have hb := h.sb.1
  have hcap := h.cap
  have hbnd := h.bnd
  simp only [List.length_cons] at c0 hcap hbnd
  have HS := Lib.hid h
  clear h
  have hfr := f0 0
  clear f0
  have key : (((bs t.w).toList == [47]) = true) ∨ (((bs t.w).toList == [47]) = false ∧ ((bs t.w).toList == [92]) = true) ∨ (((bs t.w).toList == [47]) = false ∧ ((bs t.w).toList == [92]) = false ∧ ((bs t.w).toList == [46]) = true) := by
    rcases hm with hm | hm | hm
    · exact .inl (cmpYes hm)
    · exact .inr (.inl ⟨cmpNo (by rw [hm]; decide), cmpYes hm⟩)
    · exact .inr (.inr ⟨cmpNo (by rw [hm]; decide), cmpNo (by rw [hm]; decide), cmpYes hm⟩)
  clear hm
  rcases key with m1 | ⟨m1, m2⟩ | ⟨m1, m2, m3⟩
  all_goals
    have hfw := fun w => fieldW t w
    go_enter Tryz.func95, Tryz.ntmps95
    go_wp2_with (go_at_call 77; refine (take_any w R b o c k t ts ms tm vi vt HS.out hne).mono ?_; rintro e w' ⟨rfl, hs, hF⟩; have HH := Lib.hid (And.intro hs hF); clear hs hF)
    go_ret
    exact ⟨rfl, HH.out.1, HH.out.2⟩
set_option maxHeartbeats 1000000 in
theorem mark_no (w : World) (R b o c : Nat) (k : Int) (t : Tk) (ts : List Tk) (ms : List IM) (tm : List (Option TE)) (vi vt : Value) (h : RS w R b o c k (t :: ts) ms tm vi vt) (hm : ¬ (t.w = [47] ∨ t.w = [92] ∨ t.w = [46])) : Calls Tryz.prog 95 #[.pointer (some ⟨R, 0, none⟩)] w (Tak w R b o c k (t :: ts) ms tm vi vt (.string (bs []))) := by
  obtain ⟨c0, c1, c2, c3, f0⟩ := h.cells
  have hlt := h.lt
  obtain ⟨t0, t1, t2, t3⟩ := h.head
  have hb := h.sb.1
  have hcap := h.cap
  have hbnd := h.bnd
  simp only [List.length_cons] at c0 hcap hbnd
  have HS := Lib.hid h
  clear h
  have hfr := f0 0
  clear f0
  have h1 := cmpNo fun h => hm (.inl h)
  have h2 := cmpNo fun h => hm (.inr (.inl h))
  have h3 := cmpNo fun h => hm (.inr (.inr h))
  clear hm
  go_enter Tryz.func95, Tryz.ntmps95
  go_wp2
  go_ret
  exact ⟨rfl, HS.out, Fr.refl _ _⟩
end Go.Proofs.YtbapgdhcbfpdoaaGreatDoor
