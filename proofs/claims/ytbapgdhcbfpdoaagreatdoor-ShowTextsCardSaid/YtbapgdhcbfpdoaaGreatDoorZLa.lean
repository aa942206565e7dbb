/- Layer 4, put together: LexA, LexB, LexC. -/
import Derived.Test.YtbapgdhcbfpdoaaGreatDoorRows
import Derived.Test.YtbapgdhcbfpdoaaGreatDoorShelf
import Derived.WalkKit
import Derived.WalkSpells
import Derived.WalkLawsBesides
import Derived.Lib.Hide
import Derived.Below
import Derived.Outline
import Derived.BigQuiet
import Derived.Deep.QuietTactic
import Derived.Test.YtbapgdhcbfpdoaaGreatDoorZM1
import Derived.Sort.Grow
import Derived.Lib.LaidTab
import Derived.Lib.AtoiErrMem
/- Contracts of the leaves of package lex: kinds of bytes, spans. -/
namespace Go.Proofs.YtbapgdhcbfpdoaaGreatDoor
open Go.RowKit

theorem ret_int {k : IntKind} {a b : Int} (h : a = b) : Ending.returned (.int k a) = .returned (.int k b) := by rw [h]
theorem ret_bool {a b : Bool} (h : a = b) : Ending.returned (.bool a) = .returned (.bool b) := by rw [h]
theorem get_s (s : ByteArray) (k : Nat) (h : k < s.size) : s.data.toList.getD k 0 = s[k] := by
  rw [List.getD_eq_getElem?_getD, List.getElem?_eq_getElem (by simpa using h)]; rfl
theorem len_s (s : ByteArray) : s.data.toList.length = s.size := by simp
set_option maxHeartbeats 400000 in
theorem letter_any (b : UInt8) (w : World) : Calls Tryz.prog 46 #[.int .u8 b.toNat] w fun e w' => e = .returned (.bool (letB b)) ∧ w' = w := by
  have hb := b.toNat_lt
  go_enter Tryz.func46, Tryz.ntmps46
  go_wp2
  all_goals
    go_ret
    refine ⟨ret_bool ?_, rfl⟩
    rw [Bool.eq_iff_iff]
    simp [letB]
    try omega
set_option maxHeartbeats 400000 in
theorem digit_any (b : UInt8) (w : World) : Calls Tryz.prog 49 #[.int .u8 b.toNat] w fun e w' => e = .returned (.bool (digB b)) ∧ w' = w := by
  have hb := b.toNat_lt
  go_enter Tryz.func49, Tryz.ntmps49
  go_wp2
  all_goals
    go_ret
    refine ⟨ret_bool ?_, rfl⟩
    rw [Bool.eq_iff_iff]
    simp [digB]
    try omega
set_option maxHeartbeats 400000 in
theorem word1_any (b : UInt8) (w : World) : Calls Tryz.prog 48 #[.int .u8 b.toNat] w fun e w' => e = .returned (.bool (alnB b)) ∧ w' = w := by
  have hb := b.toNat_lt
  go_enter Tryz.func48, Tryz.ntmps48
  go_wp2_with (first | (go_at_call 46; refine (letter_any b _).mono ?_; rintro e w' ⟨rfl, rfl⟩) | (go_at_call 49; refine (digit_any b _).mono ?_; rintro e w' ⟨rfl, rfl⟩))
  all_goals
    go_ret
    refine ⟨ret_bool ?_, rfl⟩
    rw [Bool.eq_iff_iff]
    simp [alnB, *]
    try omega
set_option maxHeartbeats 400000 in
theorem idle1_any (b : UInt8) (w : World) : Calls Tryz.prog 54 #[.int .u8 b.toNat] w fun e w' => e = .returned (.bool (nlB b)) ∧ w' = w := by
  have hb := b.toNat_lt
  go_enter Tryz.func54, Tryz.ntmps54
  go_wp2
  all_goals
    go_ret
    refine ⟨ret_bool ?_, rfl⟩
    rw [Bool.eq_iff_iff]
    simp [nlB]
    try omega
set_option maxHeartbeats 400000 in
theorem idle2_any (b : UInt8) (w : World) : Calls Tryz.prog 55 #[.int .u8 b.toNat] w fun e w' => e = .returned (.bool (blB b)) ∧ w' = w := by
  have hb := b.toNat_lt
  go_enter Tryz.func55, Tryz.ntmps55
  go_wp2
  all_goals
    go_ret
    refine ⟨ret_bool ?_, rfl⟩
    rw [Bool.eq_iff_iff]
    simp [blB]
    try omega
set_option maxHeartbeats 400000 in
theorem rletter_any (b : UInt8) (w : World) : Calls Tryz.prog 85 #[.int .u8 b.toNat] w fun e w' => e = .returned (.bool (letB b)) ∧ w' = w := by
  have hb := b.toNat_lt
  go_enter Tryz.func85, Tryz.ntmps85
  go_wp2
  all_goals
    go_ret
    refine ⟨ret_bool ?_, rfl⟩
    rw [Bool.eq_iff_iff]
    simp [letB]
    try omega
set_option maxHeartbeats 400000 in
theorem rdigit_any (b : UInt8) (w : World) : Calls Tryz.prog 104 #[.int .u8 b.toNat] w fun e w' => e = .returned (.bool (digB b)) ∧ w' = w := by
  have hb := b.toNat_lt
  go_enter Tryz.func104, Tryz.ntmps104
  go_wp2
  all_goals
    go_ret
    refine ⟨ret_bool ?_, rfl⟩
    rw [Bool.eq_iff_iff]
    simp [digB]
    try omega
set_option maxHeartbeats 400000 in
theorem span_aln (s : ByteArray) (w : World) (hs : s.size ≤ maxLen) : Calls Tryz.prog 47 #[.string s, .func (.func 48) #[] #[]] w fun e w' => e = .returned (.int .i64 (run alnB s.data.toList : Nat)) ∧ w' = w := by
  unfold maxLen at hs
  go_enter Tryz.func47, Tryz.ntmps47
  go_wp2
  go_loop [8] (fun i => ∃ k : Nat, k ≤ s.size ∧ i = .int .i64 k ∧ ∀ j, j < k → alnB (s.data.toList.getD j 0) = true) (fun i => s.size - (intOf i).toNat)
  case atStart => exact ⟨0, by omega, rfl, fun j hj => by omega⟩
  case round =>
    obtain ⟨k, hk, rfl, hp⟩ := hrel
    have HP := Lib.hid hp
    clear hp
    by_cases hlt : k < s.size
    · have hg := Lib.hid (get_s s k hlt)
      by_cases hb : alnB s[k] = true
      · go_wp2_with (go_at_call 48; refine (word1_any _ _).mono ?_; rintro e w' ⟨rfl, rfl⟩)
        go_round
        case rel => exact ⟨k + 1, by omega, by go_num, fun j hj => by
          rcases Nat.lt_or_ge j k with h | h
          · exact HP.out j h
          · obtain rfl : j = k := by omega
            rw [hg.out]; exact hb⟩
        case measure => simp [intOf]; omega
      · have hb : alnB s[k] = false := by simpa using hb
        go_wp2_with (go_at_call 48; refine (word1_any _ _).mono ?_; rintro e w' ⟨rfl, rfl⟩)
        go_ret
        exact ⟨ret_int (by rw [run_stop _ _ k HP.out (by rw [len_s]; omega) (.inr (by rw [hg.out]; exact hb))]), rfl⟩
    · obtain rfl : k = s.size := by omega
      go_wp2
      go_ret
      exact ⟨ret_int (by rw [run_stop _ _ s.size HP.out (by rw [len_s]; omega) (.inl (by rw [len_s]))]), rfl⟩
set_option maxHeartbeats 400000 in
theorem span_dig (s : ByteArray) (w : World) (hs : s.size ≤ maxLen) : Calls Tryz.prog 47 #[.string s, .func (.func 49) #[] #[]] w fun e w' => e = .returned (.int .i64 (run digB s.data.toList : Nat)) ∧ w' = w := by
  unfold maxLen at hs
  go_enter Tryz.func47, Tryz.ntmps47
  go_wp2
  go_loop [8] (fun i => ∃ k : Nat, k ≤ s.size ∧ i = .int .i64 k ∧ ∀ j, j < k → digB (s.data.toList.getD j 0) = true) (fun i => s.size - (intOf i).toNat)
  case atStart => exact ⟨0, by omega, rfl, fun j hj => by omega⟩
  case round =>
    obtain ⟨k, hk, rfl, hp⟩ := hrel
    have HP := Lib.hid hp
    clear hp
    by_cases hlt : k < s.size
    · have hg := Lib.hid (get_s s k hlt)
      by_cases hb : digB s[k] = true
      · go_wp2_with (go_at_call 49; refine (digit_any _ _).mono ?_; rintro e w' ⟨rfl, rfl⟩)
        go_round
        case rel => exact ⟨k + 1, by omega, by go_num, fun j hj => by
          rcases Nat.lt_or_ge j k with h | h
          · exact HP.out j h
          · obtain rfl : j = k := by omega
            rw [hg.out]; exact hb⟩
        case measure => simp [intOf]; omega
      · have hb : digB s[k] = false := by simpa using hb
        go_wp2_with (go_at_call 49; refine (digit_any _ _).mono ?_; rintro e w' ⟨rfl, rfl⟩)
        go_ret
        exact ⟨ret_int (by rw [run_stop _ _ k HP.out (by rw [len_s]; omega) (.inr (by rw [hg.out]; exact hb))]), rfl⟩
    · obtain rfl : k = s.size := by omega
      go_wp2
      go_ret
      exact ⟨ret_int (by rw [run_stop _ _ s.size HP.out (by rw [len_s]; omega) (.inl (by rw [len_s]))]), rfl⟩
set_option maxHeartbeats 400000 in
theorem span_nl (s : ByteArray) (w : World) (hs : s.size ≤ maxLen) : Calls Tryz.prog 47 #[.string s, .func (.func 54) #[] #[]] w fun e w' => e = .returned (.int .i64 (run nlB s.data.toList : Nat)) ∧ w' = w := by
  unfold maxLen at hs
  go_enter Tryz.func47, Tryz.ntmps47
  go_wp2
  go_loop [8] (fun i => ∃ k : Nat, k ≤ s.size ∧ i = .int .i64 k ∧ ∀ j, j < k → nlB (s.data.toList.getD j 0) = true) (fun i => s.size - (intOf i).toNat)
  case atStart => exact ⟨0, by omega, rfl, fun j hj => by omega⟩
  case round =>
    obtain ⟨k, hk, rfl, hp⟩ := hrel
    have HP := Lib.hid hp
    clear hp
    by_cases hlt : k < s.size
    · have hg := Lib.hid (get_s s k hlt)
      by_cases hb : nlB s[k] = true
      · go_wp2_with (go_at_call 54; refine (idle1_any _ _).mono ?_; rintro e w' ⟨rfl, rfl⟩)
        go_round
        case rel => exact ⟨k + 1, by omega, by go_num, fun j hj => by
          rcases Nat.lt_or_ge j k with h | h
          · exact HP.out j h
          · obtain rfl : j = k := by omega
            rw [hg.out]; exact hb⟩
        case measure => simp [intOf]; omega
      · have hb : nlB s[k] = false := by simpa using hb
        go_wp2_with (go_at_call 54; refine (idle1_any _ _).mono ?_; rintro e w' ⟨rfl, rfl⟩)
        go_ret
        exact ⟨ret_int (by rw [run_stop _ _ k HP.out (by rw [len_s]; omega) (.inr (by rw [hg.out]; exact hb))]), rfl⟩
    · obtain rfl : k = s.size := by omega
      go_wp2
      go_ret
      exact ⟨ret_int (by rw [run_stop _ _ s.size HP.out (by rw [len_s]; omega) (.inl (by rw [len_s]))]), rfl⟩
set_option maxHeartbeats 400000 in
theorem span_bl (s : ByteArray) (w : World) (hs : s.size ≤ maxLen) : Calls Tryz.prog 47 #[.string s, .func (.func 55) #[] #[]] w fun e w' => e = .returned (.int .i64 (run blB s.data.toList : Nat)) ∧ w' = w := by
  unfold maxLen at hs
  go_enter Tryz.func47, Tryz.ntmps47
  go_wp2
  go_loop [8] (fun i => ∃ k : Nat, k ≤ s.size ∧ i = .int .i64 k ∧ ∀ j, j < k → blB (s.data.toList.getD j 0) = true) (fun i => s.size - (intOf i).toNat)
  case atStart => exact ⟨0, by omega, rfl, fun j hj => by omega⟩
  case round =>
    obtain ⟨k, hk, rfl, hp⟩ := hrel
    have HP := Lib.hid hp
    clear hp
    by_cases hlt : k < s.size
    · have hg := Lib.hid (get_s s k hlt)
      by_cases hb : blB s[k] = true
      · go_wp2_with (go_at_call 55; refine (idle2_any _ _).mono ?_; rintro e w' ⟨rfl, rfl⟩)
        go_round
        case rel => exact ⟨k + 1, by omega, by go_num, fun j hj => by
          rcases Nat.lt_or_ge j k with h | h
          · exact HP.out j h
          · obtain rfl : j = k := by omega
            rw [hg.out]; exact hb⟩
        case measure => simp [intOf]; omega
      · have hb : blB s[k] = false := by simpa using hb
        go_wp2_with (go_at_call 55; refine (idle2_any _ _).mono ?_; rintro e w' ⟨rfl, rfl⟩)
        go_ret
        exact ⟨ret_int (by rw [run_stop _ _ k HP.out (by rw [len_s]; omega) (.inr (by rw [hg.out]; exact hb))]), rfl⟩
    · obtain rfl : k = s.size := by omega
      go_wp2
      go_ret
      exact ⟨ret_int (by rw [run_stop _ _ s.size HP.out (by rw [len_s]; omega) (.inl (by rw [len_s]))]), rfl⟩
end Go.Proofs.YtbapgdhcbfpdoaaGreatDoor
/- Contracts of package lex: what begins a text. -/
namespace Go.Proofs.YtbapgdhcbfpdoaaGreatDoor
open Go.RowKit

/-! ### strings as lists of bytes -/
def bs (l : List UInt8) : ByteArray := ⟨l.toArray⟩
theorem bs_list (l : List UInt8) : (bs l).data.toList = l := by simp [bs]
theorem bs_of (s : ByteArray) : bs s.data.toList = s := by cases s; simp [bs]
theorem bs_size (l : List UInt8) : (bs l).size = l.length := by simp [bs, ByteArray.size]
theorem bs_eq {s : ByteArray} {l : List UInt8} (h : s.data.toList = l) : s = bs l := by rw [← h, bs_of]
theorem bs_inj {l r : List UInt8} (h : bs l = bs r) : l = r := by rw [← bs_list l, h, bs_list]
theorem ext_list (s : ByteArray) (i j : Nat) : (s.extract i j).data.toList = (s.data.toList.take j).drop i := by
  rw [ByteArray.data_extract, Array.toList_extract, List.extract_eq_drop_take', List.drop_take]
theorem app_list (s t : ByteArray) : (s ++ t).data.toList = s.data.toList ++ t.data.toList := by
  rw [ByteArray.data_append, Array.toList_append]

/-! ### what is laid, and stays -/
def Laid (w : World) : Prop := Lib.TabIs Tryz.prog w "internal/strconv.uint64pow10" .u64 Lib.pow10Tab ∧ ∃ tp p, w.var? Tryz.prog "strconv.ErrRange" = some #[.iface tp p]
theorem var_below {w w' : World} {n : String} {cs : Array Value} (hb : Below w.heap.size w w') (h : w.var? Tryz.prog n = some cs) : w'.var? Tryz.prog n = some cs := by
  unfold World.var? at h ⊢
  cases hg : Tryz.prog.globalNamed n with
  | none => simp [hg] at h
  | some g =>
    simp only [hg, Option.bind_some] at h ⊢
    have hlt : g < w.heap.size := by
      rcases Nat.lt_or_ge g w.heap.size with h' | h'
      · exact h'
      · simp [Array.getElem?_eq_none h'] at h
    rw [hb.block g hlt]; exact h
theorem Laid.below {w w' : World} (h : Laid w) (hb : Below w.heap.size w w') : Laid w' := by
  obtain ⟨h1, tp, p, h2⟩ := h
  exact ⟨var_below hb h1, tp, p, var_below hb h2⟩
/-- From w to w': some draws, some new blocks; nothing that was there has turned. -/
def Gr (w w' : World) : Prop := ∃ (n : Nat) (os : Array Obj), w' = Go.Sort.grow (w.drewN n) os
theorem Gr.below {w w' : World} (h : Gr w w') : Below w.heap.size w w' := by
  obtain ⟨n, os, rfl⟩ := h
  exact ⟨rfl, rfl, rfl, by simp [Go.Sort.grow], fun k hk => Go.Sort.heap_grow_old (w.drewN n) os hk⟩

theorem bcell {W w1 : World} (hb : Below W.heap.size W w1) : (∀ b o, b < W.heap.size → w1.cell? ⟨b, o, none⟩ = W.cell? ⟨b, o, none⟩) ∧ (∀ b o, b < W.heap.size → w1.frozen? ⟨b, o, none⟩ = W.frozen? ⟨b, o, none⟩) :=
  ⟨fun b o h => hb.cell (p := ⟨b, o, none⟩) h, fun b o h => hb.frozen (p := ⟨b, o, none⟩) h⟩
set_option maxHeartbeats 400000 in
theorem clone_any (s : ByteArray) (w : World) (hs : s.size ≤ 140737488355328) : Calls Tryz.prog 50 #[.string s] w fun e w' => e = .returned (.string s) ∧ Below w.heap.size w w' := by
  go_enter Tryz.func50, Tryz.ntmps50
  go_wp2_with (go_at_call 69; go_loud (refine (Tryz.clone s _ (by omega)).mono ?_; rintro e w' ⟨rfl, hb⟩))
  go_ret
  exact ⟨rfl, hb⟩

/-! ### what the four answer -/
def tk0 : Tk := ⟨0, 0, [], 0⟩
def lineR (b : UInt8) (_ : List UInt8) : Tk × Int × Int := if b.toNat = 10 then (⟨4, 0, [], 0⟩, 1, 0) else (tk0, 0, 0)
def wordR (b : UInt8) (r : List UInt8) : Tk × Int × Int := if letB b then (if 15 < run alnB r then (tk0, 0, 33) else (⟨1, 0, b :: r.take (run alnB r), 0⟩, (run alnB r + 1 : Nat), 0)) else (tk0, 0, 0)
def Answers (w : World) (x : Tk × Int × Int) (e : Ending) (w' : World) : Prop := e = .returned (.tuple #[.agg #[.int .i64 x.1.k, .int .i64 x.1.a, .string (bs x.1.w), .int .i64 x.1.n], .int .i64 x.2.1, .int .i64 x.2.2]) ∧ Below w.heap.size w w'
theorem str_nil : ({ data := #[] } : ByteArray) = bs [] := rfl

set_option maxHeartbeats 400000 in
theorem line_any (b : UInt8) (r : List UInt8) (s : ByteArray) (w : World) (hl : s.data.toList = b :: r) : Calls Tryz.prog 31 #[.string s] w (Answers w (lineR b r)) := by
  have h0 : 0 < s.size := by rw [← len_s, hl]; simp
  have hg : s[0] = b := by rw [← get_s s 0 h0, hl]; rfl
  have HR : Hid (s.data.toList = b :: r) := hl
  clear hl
  by_cases hb : b.toNat = 10
  · have hx := Lib.hid (show lineR b r = (⟨4, 0, [], 0⟩, 1, 0) by simp [lineR, hb])
    have hb : ((s[0].toNat : Int) != 10) = false := by rw [hg]; simp [hb]
    clear hg
    go_enter Tryz.func31, Tryz.ntmps31
    go_wp2
    exact bodyPost_ret (v := .tuple #[.agg #[.int .i64 4, .int .i64 0, .string (bs []), .int .i64 0], .int .i64 1, .int .i64 0]) (by simp [results, Tryz.results31, go_sem, bs]) rfl ⟨by rw [hx.out], (Below.refl _ _).alloc (Nat.le_refl _) _⟩
  · have hx := Lib.hid (show lineR b r = (tk0, 0, 0) by simp [lineR, hb])
    have hb : ((s[0].toNat : Int) != 10) = true := by rw [hg]; simp; omega
    clear hg
    go_enter Tryz.func31, Tryz.ntmps31
    go_wp2
    exact bodyPost_ret (v := .tuple #[.agg #[.int .i64 0, .int .i64 0, .string (bs []), .int .i64 0], .int .i64 0, .int .i64 0]) (by simp [results, Tryz.results31, go_sem, bs]) rfl ⟨by rw [hx.out]; rfl, (Below.refl _ _).alloc (Nat.le_refl _) _⟩

theorem bset4 {n : Nat} {w w' : World} (hb : Below n w w') {b : Nat} (h : n ≤ b) (v0 v1 v2 v3 : Value) : Below n w ((((w'.setCell ⟨b, 0, none⟩ v0).setCell ⟨b, 1, none⟩ v1).setCell ⟨b, 2, none⟩ v2).setCell ⟨b, 3, none⟩ v3) :=
  (((hb.setCell (p := ⟨b, 0, none⟩) h _).setCell (p := ⟨b, 1, none⟩) h _).setCell (p := ⟨b, 2, none⟩) h _).setCell (p := ⟨b, 3, none⟩) h _
theorem none_ret {w w1 : World} {x : Tk × Int × Int} {e : Int} (hx : x = (tk0, 0, e)) (hb : Below w.heap.size w w1) : Answers w x (.returned (.tuple #[.agg #[.int .i64 0, .int .i64 0, .string (bs []), .int .i64 0], .int .i64 0, .int .i64 e])) w1 := by
  subst hx; exact ⟨rfl, hb⟩
set_option maxHeartbeats 1000000 in
theorem word_any (b : UInt8) (r : List UInt8) (s : ByteArray) (w : World) (hs : s.size ≤ 140737488355328) (hl : s.data.toList = b :: r) : Calls Tryz.prog 32 #[.string s] w (Answers w (wordR b r)) := by
  have h0 : 0 < s.size := by rw [← len_s, hl]; simp
  have hg : s[0] = b := by rw [← get_s s 0 h0, hl]; rfl
  have hsz : s.size = r.length + 1 := by rw [← len_s, hl]; rfl
  have hml : s.size ≤ maxLen := by unfold maxLen; omega
  by_cases hb : letB b = true
  · have hrun := Lib.hid (show run alnB s.data.toList = run alnB r + 1 by rw [hl, run_cons, if_pos (by unfold alnB; rw [hb]; rfl)])
    have hle : run alnB r ≤ r.length := run_le _ _
    have hlr : run alnB s.data.toList ≤ s.size := by rw [← len_s]; exact run_le _ _
    by_cases hn : 15 < run alnB r
    · have hx := Lib.hid (show wordR b r = (tk0, 0, 33) by simp [wordR, hb, hn])
      have hb : letB s[0] = true := by rw [hg]; exact hb
      have hn : 16 < run alnB s.data.toList := by rw [hrun.out]; omega
      have HL : Hid (s.data.toList = b :: r) := hl
      have HG := Lib.hid hg
      have HZ := Lib.hid hsz
      clear hl hg hsz
      go_enter Tryz.func32, Tryz.ntmps32
      go_wp2_with (first | (go_at_call 46; refine (letter_any s[0] _).mono ?_; rintro e w' ⟨rfl, rfl⟩) | (go_at_call 47; refine (span_aln s _ hml).mono ?_; rintro e w' ⟨rfl, rfl⟩))
      exact bodyPost_ret (v := .tuple #[.agg #[.int .i64 0, .int .i64 0, .string (bs []), .int .i64 0], .int .i64 0, .int .i64 33]) (by simp [results, Tryz.results32, go_sem, bs]) rfl (none_ret hx.out ((Below.refl _ _).alloc (Nat.le_refl _) _))
    · have hx := Lib.hid (show wordR b r = ((⟨1, 0, b :: r.take (run alnB r), 0⟩ : Tk), ((run alnB r + 1 : Nat) : Int), (0 : Int)) by simp [wordR, hb, hn])
      have hb : letB s[0] = true := by rw [hg]; exact hb
      have hn : run alnB s.data.toList ≤ 16 := by rw [hrun.out]; omega
      have hex := Lib.hid (show s.extract 0 (run alnB s.data.toList) = bs (b :: r.take (run alnB r)) from bs_eq (by rw [ext_list, hrun.out, hl]; rfl))
      have hez : (s.extract 0 (run alnB s.data.toList)).size ≤ 140737488355328 := by rw [hex.out, bs_size]; simp; omega
      have HL : Hid (s.data.toList = b :: r) := hl
      have HG := Lib.hid hg
      have HZ := Lib.hid hsz
      clear hl hg hsz
      go_enter Tryz.func32, Tryz.ntmps32
      go_wp2_with (first | (go_at_call 46; refine (letter_any s[0] _).mono ?_; rintro e w' ⟨rfl, rfl⟩) | (go_at_call 47; refine (span_aln s _ hml).mono ?_; rintro e w' ⟨rfl, rfl⟩) | (go_at_call 50; refine (clone_any _ _ hez).mono ?_; rintro e w' ⟨rfl, hb1⟩; obtain ⟨hc, hf⟩ := bcell hb1))
      exact bodyPost_ret (v := .tuple #[.agg #[.int .i64 1, .int .i64 0, .string (s.extract 0 (run alnB s.data.toList)), .int .i64 0], .int .i64 (run alnB s.data.toList : Nat), .int .i64 0]) (by simp [results, Tryz.results32, go_sem, hc]) rfl ⟨by rw [hx.out, hex.out, hrun.out], bset4 (((Below.refl _ _).alloc (Nat.le_refl _) _).trans (hb1.mono (by simp))) (Nat.le_refl _) _ _ _ _⟩
  · have hb : letB b = false := by simpa using hb
    have hx := Lib.hid (show wordR b r = (tk0, 0, 0) by simp [wordR, hb])
    have hb : letB s[0] = false := by rw [hg]; exact hb
    have HL : Hid (s.data.toList = b :: r) := hl
    have HG := Lib.hid hg
    have HZ := Lib.hid hsz
    clear hl hg hsz
    go_enter Tryz.func32, Tryz.ntmps32
    go_wp2_with (first | (go_at_call 46; refine (letter_any s[0] _).mono ?_; rintro e w' ⟨rfl, rfl⟩) | (go_at_call 47; refine (span_aln s _ hml).mono ?_; rintro e w' ⟨rfl, rfl⟩))
    exact bodyPost_ret (v := .tuple #[.agg #[.int .i64 0, .int .i64 0, .string (bs []), .int .i64 0], .int .i64 0, .int .i64 0]) (by simp [results, Tryz.results32, go_sem, bs]) rfl (none_ret hx.out ((Below.refl _ _).alloc (Nat.le_refl _) _))

/-! ### the library's numbers -/
theorem parse_ok (s : ByteArray) (w : World) (hs : s.size ≤ 281474976710656) (v : Int) (h : Lib.parseIntB 64 s.data.toList = .ok v) :
    Calls Tryz.prog 52 #[.string s, .int .i64 10, .int .i64 64] w fun e w' => e = .returned (.tuple #[.int .i64 v, .nilIface]) ∧ Below w.heap.size w w' :=
  (Tryz.parseInt_ok s (by omega) v h w).mono fun e w' ⟨he, hw⟩ => ⟨he, by
    rcases hw with rfl | ⟨t, rfl⟩
    · exact Below.refl _ _
    · exact Lib.bytesWorld_below _ _ _⟩
theorem parse_range (s : ByteArray) (w : World) (hL : Laid w) (hs : s.size ≤ 281474976710656) (h : Lib.parseIntB 64 s.data.toList = .range) :
    Calls Tryz.prog 52 #[.string s, .int .i64 10, .int .i64 64] w fun e w' => ∃ (v : Int) (t : TypeId) (p : Value), e = .returned (.tuple #[.int .i64 v, .iface t p]) ∧ Below w.heap.size w w' := by
  obtain ⟨_, tp, p, hv⟩ := hL
  exact (Tryz.parseInt_range s hs h tp p w hv).mono fun e w' ⟨N, he, _, _, hb⟩ => ⟨_, _, _, he, hb⟩
theorem cut_yes (s : ByteArray) (p : UInt8) (r : List UInt8) (w : World) (h : s.data.toList = p :: r) : Calls Tryz.prog 51 #[.string s, .string ⟨#[p]⟩] w fun e w' => e = .returned (.tuple #[.string (bs r), .bool true]) ∧ w' = w :=
  (Tryz.cutPrefix s ⟨#[p]⟩ w).mono fun e w' ⟨he, hw⟩ => ⟨by rw [he, h]; simp [Lib.trimPrefix, Lib.hasPrefix, bs], hw⟩
theorem cut_no (s : ByteArray) (p : UInt8) (w : World) (h : s.data.toList.head? ≠ some p) : Calls Tryz.prog 51 #[.string s, .string ⟨#[p]⟩] w fun e w' => e = .returned (.tuple #[.string s, .bool false]) ∧ w' = w :=
  (Tryz.cutPrefix s ⟨#[p]⟩ w).mono fun e w' ⟨he, hw⟩ => ⟨by
    have e1 : Lib.hasPrefix s.data.toList [p] = false := by
      unfold Lib.hasPrefix
      cases hl : s.data.toList with
      | nil => rfl
      | cons c r =>
        rw [hl] at h
        have : ¬ c = p := by simpa using h
        simp [List.isPrefixOf]
        exact fun e => this e.symm
    rw [he]
    have e2 : Lib.trimPrefix s.data.toList [p] = s.data.toList := by unfold Lib.trimPrefix; rw [e1]; simp
    show Ending.returned (.tuple #[.string ⟨(Lib.trimPrefix s.data.toList [p]).toArray⟩, .bool (Lib.hasPrefix s.data.toList [p])]) = _
    rw [e1, e2], hw⟩
end Go.Proofs.YtbapgdhcbfpdoaaGreatDoor
/- Contracts of package lex: number, sign, idle. -/
namespace Go.Proofs.YtbapgdhcbfpdoaaGreatDoor
open Go.RowKit

def numA (o : Option Int) (n : Nat) : Tk × Int × Int := match o with
  | some v => (⟨2, 0, [], v⟩, n, 0)
  | none => (tk0, 0, 32)
def numberR (b : UInt8) (r : List UInt8) : Tk × Int × Int :=
  if b.toNat = 95 then (if 0 < run digB r then numA (numR true (r.take (run digB r))) (run digB r + 1) else (tk0, 0, 0))
  else if digB b then numA (numR false (b :: r.take (run digB r))) (run digB r + 1) else (tk0, 0, 0)
def signR (b : UInt8) (r : List UInt8) : Tk × Int × Int :=
  if (b.toNat = 60 ∨ b.toNat = 62) ∧ r.head? = some 61 then (⟨3, 0, [b, 61], 0⟩, 2, 0) else if oneB b then (⟨3, 0, [b], 0⟩, 1, 0) else (tk0, 0, 0)
theorem tok_ret {w w1 : World} {x : Tk × Int × Int} {t : Tk} {n : Int} {s : ByteArray} (hx : x = (t, n, 0)) (hs : s = bs t.w) (hb : Below w.heap.size w w1) : Answers w x (.returned (.tuple #[.agg #[.int .i64 t.k, .int .i64 t.a, .string s, .int .i64 t.n], .int .i64 n, .int .i64 0])) w1 := by
  subst hx hs; exact ⟨rfl, hb⟩

set_option maxHeartbeats 1000000 in
theorem number_no (b : UInt8) (r : List UInt8) (s : ByteArray) (w : World) (hs : s.size ≤ 140737488355328) (hl : s.data.toList = b :: r) (h95 : b.toNat ≠ 95) (hd : digB b = false) : Calls Tryz.prog 33 #[.string s] w (Answers w (numberR b r)) := by
  have hx := Lib.hid (show numberR b r = (tk0, 0, 0) by simp [numberR, h95, hd])
  have hml : s.size ≤ maxLen := by unfold maxLen; omega
  have hrun := (show run digB s.data.toList = 0 by rw [hl, run_cons, hd]; rfl)
  have hcut := cut_no s 95 (h := by rw [hl]; simp; intro e; exact h95 (by rw [e]; rfl))
  have hq := show s.extract 0 0 = bs [] from bs_eq (by rw [ext_list]; simp)
  have HL := Lib.hid hl
  clear hl h95 hd
  go_enter Tryz.func33, Tryz.ntmps33
  go_wp2_with (first | (go_at_call 51; refine (hcut _).mono ?_; rintro e w' ⟨rfl, rfl⟩) | (go_at_call 47; refine (span_dig s _ hml).mono ?_; rintro e w' ⟨rfl, rfl⟩))
  exact bodyPost_ret (v := .tuple #[.agg #[.int .i64 0, .int .i64 0, .string (bs []), .int .i64 0], .int .i64 0, .int .i64 0]) (by simp [results, Tryz.results33, go_sem, bs]) rfl (none_ret hx.out ((Below.refl _ _).alloc (Nat.le_refl _) _))
theorem bs_empty {l : List UInt8} (h : 0 < l.length) : (bs l).toList.isEmpty = false := by
  rw [ByteArray.toList_eq, bs_list]
  cases l with
  | nil => simp at h
  | cons => rfl
theorem span_dig' (l : List UInt8) (w : World) (hs : l.length ≤ maxLen) : Calls Tryz.prog 47 #[.string (bs l), .func (.func 49) #[] #[]] w fun e w' => e = .returned (.int .i64 (run digB l : Nat)) ∧ w' = w := by
  have := span_dig (bs l) w (by rw [bs_size]; exact hs)
  rw [bs_list] at this
  exact this
set_option maxHeartbeats 1000000 in
theorem number_no95 (b : UInt8) (r : List UInt8) (s : ByteArray) (w : World) (hs : s.size ≤ 140737488355328) (hl : s.data.toList = b :: r) (h95 : b.toNat = 95) (hd : run digB r = 0) : Calls Tryz.prog 33 #[.string s] w (Answers w (numberR b r)) := by
  have hx := Lib.hid (show numberR b r = (tk0, 0, 0) by simp [numberR, h95, hd])
  have hml : r.length ≤ maxLen := by have : s.size = r.length + 1 := by rw [← len_s, hl]; rfl
                                     unfold maxLen; omega
  obtain rfl : b = 95 := UInt8.toNat_inj.1 h95
  have hcut := cut_yes s 95 r (h := hl)
  have hq := show (bs r).extract 0 0 = bs [] from bs_eq (by rw [ext_list]; simp)
  have HL := Lib.hid hl
  clear hl h95
  go_enter Tryz.func33, Tryz.ntmps33
  go_wp2_with (first | (go_at_call 51; refine (hcut _).mono ?_; rintro e w' ⟨rfl, rfl⟩) | (go_at_call 47; refine (span_dig' r _ hml).mono ?_; rintro e w' ⟨rfl, rfl⟩))
  exact bodyPost_ret (v := .tuple #[.agg #[.int .i64 0, .int .i64 0, .string (bs []), .int .i64 0], .int .i64 0, .int .i64 0]) (by simp [results, Tryz.results33, go_sem, bs]) rfl (none_ret hx.out ((Below.refl _ _).alloc (Nat.le_refl _) _))
set_option maxHeartbeats 1000000 in
theorem number_neg (b : UInt8) (r : List UInt8) (s : ByteArray) (w : World) (v : Int) (hs : s.size ≤ 140737488355328) (hl : s.data.toList = b :: r) (h95 : b.toNat = 95) (hd : 0 < run digB r) (hv : numR true (r.take (run digB r)) = some v) : Calls Tryz.prog 33 #[.string s] w (Answers w (numberR b r)) := by
  have hx := Lib.hid (show numberR b r = ((⟨2, 0, [], v⟩ : Tk), ((run digB r + 1 : Nat) : Int), (0 : Int)) by simp [numberR, h95, hd, hv, numA])
  have hr1 : s.size = r.length + 1 := by rw [← len_s, hl]; rfl
  have hrl : run digB r ≤ r.length := run_le _ _
  have hml : r.length ≤ maxLen := by unfold maxLen; omega
  obtain rfl : b = 95 := UInt8.toNat_inj.1 h95
  have hcut := cut_yes s 95 r (h := hl)
  have hlen : (r.take (run digB r)).length = run digB r := by rw [List.length_take]; omega
  have hq := show (bs r).extract 0 (run digB r) = bs (r.take (run digB r)) from bs_eq (by rw [ext_list, bs_list]; simp)
  have hbz := bs_size r
  have he := bs_empty (l := r.take (run digB r)) (by omega)
  have hbz2 := Lib.hid (show (bs (r.take (run digB r))).size = run digB r by rw [bs_size, hlen])
  have hbz3 : (bs (r.take (run digB r))).size ≤ 140737488355328 := by rw [hbz2.out]; omega
  have hcat : (⟨#[45]⟩ : ByteArray) ++ bs (r.take (run digB r)) = bs (45 :: r.take (run digB r)) := bs_eq (by rw [app_list, bs_list]; rfl)
  have hp := parse_ok (bs (45 :: r.take (run digB r))) (v := v) (hs := by rw [bs_size]; simp; omega) (h := by rw [bs_list, parse_neg _ (by intro e; rw [e] at hlen; simp at hlen; omega) (run_all _ _), hv]; rfl)
  have HL := Lib.hid hl
  have HR := Lib.hid hr1
  clear hl h95 hv hr1 hlen hd
  go_enter Tryz.func33, Tryz.ntmps33
  go_wp2_with (first | (go_at_call 51; refine (hcut _).mono ?_; rintro e w' ⟨rfl, rfl⟩) | (go_at_call 47; refine (span_dig' r _ hml).mono ?_; rintro e w' ⟨rfl, rfl⟩) | (go_at_call 52; refine (hp _).mono ?_; rintro e w' ⟨rfl, hb1⟩; obtain ⟨hc, hf⟩ := bcell hb1))
  exact bodyPost_ret (v := .tuple #[.agg #[.int .i64 2, .int .i64 0, .string (bs []), .int .i64 v], .int .i64 ((((bs (r.take (run digB r))).size : Nat) : Int) + 1), .int .i64 0]) (by simp [results, Tryz.results33, go_sem, hc, bs]) rfl (tok_ret (t := ⟨2, 0, [], v⟩) (by rw [hx.out, hbz2.out]; rfl) rfl (bset4 (((Below.refl _ _).alloc (Nat.le_refl _) _).trans (hb1.mono (by simp))) (Nat.le_refl _) _ _ _ _))
set_option maxHeartbeats 1000000 in
theorem number_neg_far (b : UInt8) (r : List UInt8) (s : ByteArray) (w : World) (hL : Laid w) (hs : s.size ≤ 140737488355328) (hl : s.data.toList = b :: r) (h95 : b.toNat = 95) (hd : 0 < run digB r) (hv : numR true (r.take (run digB r)) = none) : Calls Tryz.prog 33 #[.string s] w (Answers w (numberR b r)) := by
  have hx := Lib.hid (show numberR b r = (tk0, (0 : Int), (32 : Int)) by simp [numberR, h95, hd, hv, numA])
  have hr1 : s.size = r.length + 1 := by rw [← len_s, hl]; rfl
  have hrl : run digB r ≤ r.length := run_le _ _
  have hml : r.length ≤ maxLen := by unfold maxLen; omega
  obtain rfl : b = 95 := UInt8.toNat_inj.1 h95
  have hcut := cut_yes s 95 r (h := hl)
  have hlen : (r.take (run digB r)).length = run digB r := by rw [List.length_take]; omega
  have hq := show (bs r).extract 0 (run digB r) = bs (r.take (run digB r)) from bs_eq (by rw [ext_list, bs_list]; simp)
  have hbz := bs_size r
  have he := bs_empty (l := r.take (run digB r)) (by omega)
  have hbz2 := Lib.hid (show (bs (r.take (run digB r))).size = run digB r by rw [bs_size, hlen])
  have hbz3 : (bs (r.take (run digB r))).size ≤ 140737488355328 := by rw [hbz2.out]; omega
  have hcat : (⟨#[45]⟩ : ByteArray) ++ bs (r.take (run digB r)) = bs (45 :: r.take (run digB r)) := bs_eq (by rw [app_list, bs_list]; rfl)
  have hp := fun w hL => parse_range (bs (45 :: r.take (run digB r))) w hL (by rw [bs_size]; simp; omega) (by rw [bs_list, parse_neg _ (by intro e; rw [e] at hlen; simp at hlen; omega) (run_all _ _), hv]; rfl)
  have HL := Lib.hid hl
  have HR := Lib.hid hr1
  clear hl h95 hv hr1 hlen hd
  go_enter Tryz.func33, Tryz.ntmps33
  go_wp2_with (first | (go_at_call 51; refine (hcut _).mono ?_; rintro e w' ⟨rfl, rfl⟩) | (go_at_call 47; refine (span_dig' r _ hml).mono ?_; rintro e w' ⟨rfl, rfl⟩) | (go_at_call 52; refine (hp _ (hL.below ((Below.refl _ _).alloc (Nat.le_refl _) _))).mono ?_; rintro e w' ⟨v, t, p, rfl, hb1⟩; obtain ⟨hc, hf⟩ := bcell hb1))
  exact bodyPost_ret (v := .tuple #[.agg #[.int .i64 0, .int .i64 0, .string (bs []), .int .i64 0], .int .i64 0, .int .i64 32]) (by simp [results, Tryz.results33, go_sem, hc, bs]) rfl (none_ret hx.out (bset4 (((Below.refl _ _).alloc (Nat.le_refl _) _).trans (hb1.mono (by simp))) (Nat.le_refl _) _ _ _ _))
set_option maxHeartbeats 1000000 in
theorem number_pos (b : UInt8) (r : List UInt8) (s : ByteArray) (w : World) (v : Int) (hs : s.size ≤ 140737488355328) (hl : s.data.toList = b :: r) (h95 : b.toNat ≠ 95) (hd : digB b = true) (hv : numR false (b :: r.take (run digB r)) = some v) : Calls Tryz.prog 33 #[.string s] w (Answers w (numberR b r)) := by
  have hx := Lib.hid (show numberR b r = ((⟨2, 0, [], v⟩ : Tk), ((run digB r + 1 : Nat) : Int), (0 : Int)) by simp [numberR, h95, hd, hv, numA])
  have hr1 : s.size = r.length + 1 := by rw [← len_s, hl]; rfl
  have hrl : run digB r ≤ r.length := run_le _ _
  have hml : s.size ≤ maxLen := by unfold maxLen; omega
  have hrun := (show run digB s.data.toList = run digB r + 1 by rw [hl, run_cons, hd]; rfl)
  have hcut := cut_no s 95 (h := by rw [hl]; simp; intro e; exact h95 (by rw [e]; rfl))
  have hlen : (b :: r.take (run digB r)).length = run digB r + 1 := by rw [List.length_cons, List.length_take]; omega
  have hq := show s.extract 0 (run digB r + 1) = bs (b :: r.take (run digB r)) from bs_eq (by rw [ext_list, hl]; simp)
  have he := bs_empty (l := b :: r.take (run digB r)) (by omega)
  have hbz2 := Lib.hid (show (bs (b :: r.take (run digB r))).size = run digB r + 1 by rw [bs_size, hlen])
  have hle : run digB r + 1 ≤ s.size := by omega
  have hbz3 : (bs (b :: r.take (run digB r))).size ≤ 140737488355328 := by rw [hbz2.out]; omega
  have hall : ∀ d ∈ b :: r.take (run digB r), digB d = true := fun d hm => by
    rcases List.mem_cons.1 hm with rfl | hm
    · exact hd
    · exact run_all _ _ d hm
  have hp := parse_ok (bs (b :: r.take (run digB r))) (v := v) (hs := by rw [bs_size]; simp; omega) (h := by rw [bs_list, parse_pos _ _ hall, hv]; rfl)
  have HL := Lib.hid hl
  have HR := Lib.hid hr1
  clear hl h95 hv hr1 hlen hd hall
  go_enter Tryz.func33, Tryz.ntmps33
  go_wp2_with (first | (go_at_call 51; refine (hcut _).mono ?_; rintro e w' ⟨rfl, rfl⟩) | (go_at_call 47; refine (span_dig s _ hml).mono ?_; rintro e w' ⟨rfl, rfl⟩) | (go_at_call 52; refine (hp _).mono ?_; rintro e w' ⟨rfl, hb1⟩; obtain ⟨hc, hf⟩ := bcell hb1))
  exact bodyPost_ret (v := .tuple #[.agg #[.int .i64 2, .int .i64 0, .string (bs []), .int .i64 v], .int .i64 ((((bs (b :: r.take (run digB r))).size : Nat) : Int)), .int .i64 0]) (by simp [results, Tryz.results33, go_sem, hc, bs]) rfl (tok_ret (t := ⟨2, 0, [], v⟩) (by rw [hx.out, hbz2.out]) rfl (bset4 (((Below.refl _ _).alloc (Nat.le_refl _) _).trans (hb1.mono (by simp))) (Nat.le_refl _) _ _ _ _))
set_option maxHeartbeats 1000000 in
theorem number_pos_far (b : UInt8) (r : List UInt8) (s : ByteArray) (w : World) (hL : Laid w) (hs : s.size ≤ 140737488355328) (hl : s.data.toList = b :: r) (h95 : b.toNat ≠ 95) (hd : digB b = true) (hv : numR false (b :: r.take (run digB r)) = none) : Calls Tryz.prog 33 #[.string s] w (Answers w (numberR b r)) := by
  have hx := Lib.hid (show numberR b r = (tk0, (0 : Int), (32 : Int)) by simp [numberR, h95, hd, hv, numA])
  have hr1 : s.size = r.length + 1 := by rw [← len_s, hl]; rfl
  have hrl : run digB r ≤ r.length := run_le _ _
  have hml : s.size ≤ maxLen := by unfold maxLen; omega
  have hrun := (show run digB s.data.toList = run digB r + 1 by rw [hl, run_cons, hd]; rfl)
  have hcut := cut_no s 95 (h := by rw [hl]; simp; intro e; exact h95 (by rw [e]; rfl))
  have hlen : (b :: r.take (run digB r)).length = run digB r + 1 := by rw [List.length_cons, List.length_take]; omega
  have hq := show s.extract 0 (run digB r + 1) = bs (b :: r.take (run digB r)) from bs_eq (by rw [ext_list, hl]; simp)
  have he := bs_empty (l := b :: r.take (run digB r)) (by omega)
  have hbz2 := Lib.hid (show (bs (b :: r.take (run digB r))).size = run digB r + 1 by rw [bs_size, hlen])
  have hle : run digB r + 1 ≤ s.size := by omega
  have hbz3 : (bs (b :: r.take (run digB r))).size ≤ 140737488355328 := by rw [hbz2.out]; omega
  have hall : ∀ d ∈ b :: r.take (run digB r), digB d = true := fun d hm => by
    rcases List.mem_cons.1 hm with rfl | hm
    · exact hd
    · exact run_all _ _ d hm
  have hp := fun w hL => parse_range (bs (b :: r.take (run digB r))) w hL (by rw [bs_size]; simp; omega) (by rw [bs_list, parse_pos _ _ hall, hv]; rfl)
  have HL := Lib.hid hl
  have HR := Lib.hid hr1
  clear hl h95 hv hr1 hlen hd hall
  go_enter Tryz.func33, Tryz.ntmps33
  go_wp2_with (first | (go_at_call 51; refine (hcut _).mono ?_; rintro e w' ⟨rfl, rfl⟩) | (go_at_call 47; refine (span_dig s _ hml).mono ?_; rintro e w' ⟨rfl, rfl⟩) | (go_at_call 52; refine (hp _ (hL.below ((Below.refl _ _).alloc (Nat.le_refl _) _))).mono ?_; rintro e w' ⟨v, t, p, rfl, hb1⟩; obtain ⟨hc, hf⟩ := bcell hb1))
  exact bodyPost_ret (v := .tuple #[.agg #[.int .i64 0, .int .i64 0, .string (bs []), .int .i64 0], .int .i64 0, .int .i64 32]) (by simp [results, Tryz.results33, go_sem, hc, bs]) rfl (none_ret hx.out (bset4 (((Below.refl _ _).alloc (Nat.le_refl _) _).trans (hb1.mono (by simp))) (Nat.le_refl _) _ _ _ _))

theorem number_any (b : UInt8) (r : List UInt8) (s : ByteArray) (w : World) (hL : Laid w) (hs : s.size ≤ 140737488355328) (hl : s.data.toList = b :: r) : Calls Tryz.prog 33 #[.string s] w (Answers w (numberR b r)) := by
  by_cases h95 : b.toNat = 95
  · by_cases hd : 0 < run digB r
    · cases hv : numR true (r.take (run digB r)) with
      | some v => exact number_neg b r s w v hs hl h95 hd hv
      | none => exact number_neg_far b r s w hL hs hl h95 hd hv
    · exact number_no95 b r s w hs hl h95 (by omega)
  · cases hd : digB b with
    | true =>
      cases hv : numR false (b :: r.take (run digB r)) with
      | some v => exact number_pos b r s w v hs hl h95 hd hv
      | none => exact number_pos_far b r s w hL hs hl h95 hd hv
    | false => exact number_no b r s w hs hl h95 hd
end Go.Proofs.YtbapgdhcbfpdoaaGreatDoor
