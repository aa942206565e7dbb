/- Contracts of package lex: number, sign, idle. -/
import Derived.Test.YtphcjpomneejmaaDoorLexB
namespace Go.Proofs.YtphcjpomneejmaaDoor
open Go.RowKit

def numA (o : Option Int) (n : Nat) : Tk × Int × Int := match o with
  | some v => (⟨2, 0, [], v⟩, n, 0)
  | none => (tk0, 0, 32)
def numberR (b : UInt8) (r : List UInt8) : Tk × Int × Int :=
  if b.toNat = 95 then (if 0 < run digB r then numA (numR true (r.take (run digB r))) (run digB r + 1) else (tk0, 0, 0))
  else if digB b then numA (numR false (b :: r.take (run digB r))) (run digB r + 1) else (tk0, 0, 0)
def signR (b : UInt8) (r : List UInt8) : Tk × Int × Int :=
  if (b.toNat = 60 ∨ b.toNat = 62) ∧ r.head? = some 61 then (⟨3, 0, [b, 61], 0⟩, 2, 0) else if oneB b then (⟨3, 0, [b], 0⟩, 1, 0) else (tk0, 0, 0)
theorem tok_ret {w w1 : World} {x : Tk × Int × Int} {t : Tk} {n : Int} {s : ByteArray} (hx : x = (t, n, 0)) (hs : s = bs t.w) (hb : Below w.heap.size w w1) : Answers w x (.returned (.tuple #[.agg #[.int .i64 t.k, .int .i64 t.a, .string s, .int .i64 t.n], .int .i64 n, .int .i64 0])) w1 := by
  subst hx hs; exact ⟨rfl, hb⟩

set_option maxHeartbeats 1000000 in
theorem number_no (b : UInt8) (r : List UInt8) (s : ByteArray) (w : World) (hs : s.size ≤ 140737488355328) (hl : s.data.toList = b :: r) (h95 : b.toNat ≠ 95) (hd : digB b = false) : Calls Tryd.prog 20 #[.string s] w (Answers w (numberR b r)) := by
  have hx := Lib.hid (show numberR b r = (tk0, 0, 0) by simp [numberR, h95, hd])
  have hml : s.size ≤ maxLen := by unfold maxLen; omega
  have hrun := (show run digB s.data.toList = 0 by rw [hl, run_cons, hd]; rfl)
  have hcut := cut_no s 95 (h := by rw [hl]; simp; intro e; exact h95 (by rw [e]; rfl))
  have hq := show s.extract 0 0 = bs [] from bs_eq (by rw [ext_list]; simp)
  have HL := Lib.hid hl
  clear hl h95 hd
  go_enter Tryd.func20, Tryd.ntmps20
  go_wp2_with (first | (go_at_call 31; refine (hcut _).mono ?_; rintro e w' ⟨rfl, rfl⟩) | (go_at_call 28; refine (span_dig s _ hml).mono ?_; rintro e w' ⟨rfl, rfl⟩))
  exact bodyPost_ret (v := .tuple #[.agg #[.int .i64 0, .int .i64 0, .string (bs []), .int .i64 0], .int .i64 0, .int .i64 0]) (by simp [results, Tryd.results20, go_sem, bs]) rfl (none_ret hx.out ((Below.refl _ _).alloc (Nat.le_refl _) _))
theorem bs_empty {l : List UInt8} (h : 0 < l.length) : (bs l).toList.isEmpty = false := by
  rw [ByteArray.toList_eq, bs_list]
  cases l with
  | nil => simp at h
  | cons => rfl
theorem span_dig' (l : List UInt8) (w : World) (hs : l.length ≤ maxLen) : Calls Tryd.prog 28 #[.string (bs l), .func (.func 30) #[] #[]] w fun e w' => e = .returned (.int .i64 (run digB l : Nat)) ∧ w' = w := by
  have := span_dig (bs l) w (by rw [bs_size]; exact hs)
  rw [bs_list] at this
  exact this
set_option maxHeartbeats 1000000 in
theorem number_no95 (b : UInt8) (r : List UInt8) (s : ByteArray) (w : World) (hs : s.size ≤ 140737488355328) (hl : s.data.toList = b :: r) (h95 : b.toNat = 95) (hd : run digB r = 0) : Calls Tryd.prog 20 #[.string s] w (Answers w (numberR b r)) := by
  have hx := Lib.hid (show numberR b r = (tk0, 0, 0) by simp [numberR, h95, hd])
  have hml : r.length ≤ maxLen := by have : s.size = r.length + 1 := by rw [← len_s, hl]; rfl
                                     unfold maxLen; omega
  obtain rfl : b = 95 := UInt8.toNat_inj.1 h95
  have hcut := cut_yes s 95 r (h := hl)
  have hq := show (bs r).extract 0 0 = bs [] from bs_eq (by rw [ext_list]; simp)
  have HL := Lib.hid hl
  clear hl h95
  go_enter Tryd.func20, Tryd.ntmps20
  go_wp2_with (first | (go_at_call 31; refine (hcut _).mono ?_; rintro e w' ⟨rfl, rfl⟩) | (go_at_call 28; refine (span_dig' r _ hml).mono ?_; rintro e w' ⟨rfl, rfl⟩))
  exact bodyPost_ret (v := .tuple #[.agg #[.int .i64 0, .int .i64 0, .string (bs []), .int .i64 0], .int .i64 0, .int .i64 0]) (by simp [results, Tryd.results20, go_sem, bs]) rfl (none_ret hx.out ((Below.refl _ _).alloc (Nat.le_refl _) _))
set_option maxHeartbeats 1000000 in
theorem number_neg (b : UInt8) (r : List UInt8) (s : ByteArray) (w : World) (v : Int) (hs : s.size ≤ 140737488355328) (hl : s.data.toList = b :: r) (h95 : b.toNat = 95) (hd : 0 < run digB r) (hv : numR true (r.take (run digB r)) = some v) : Calls Tryd.prog 20 #[.string s] w (Answers w (numberR b r)) := by
  have hx := Lib.hid (show numberR b r = ((⟨2, 0, [], v⟩ : Tk), ((run digB r + 1 : Nat) : Int), (0 : Int)) by simp [numberR, h95, hd, hv, numA])
  have hr1 : s.size = r.length + 1 := by rw [← len_s, hl]; rfl
  have hrl : run digB r ≤ r.length := run_le _ _
  have hml : r.length ≤ maxLen := by unfold maxLen; omega
  obtain rfl : b = 95 := UInt8.toNat_inj.1 h95
  have hcut := cut_yes s 95 r (h := hl)
  have hlen : (r.take (run digB r)).length = run digB r := by rw [List.length_take]; omega
  have hq := show (bs r).extract 0 (run digB r) = bs (r.take (run digB r)) from bs_eq (by rw [ext_list, bs_list]; simp)
  have hbz := bs_size r
  have he := bs_empty (l := r.take (run digB r)) (by omega)
  have hbz2 := Lib.hid (show (bs (r.take (run digB r))).size = run digB r by rw [bs_size, hlen])
  have hbz3 : (bs (r.take (run digB r))).size ≤ 140737488355328 := by rw [hbz2.out]; omega
  have hcat : (⟨#[45]⟩ : ByteArray) ++ bs (r.take (run digB r)) = bs (45 :: r.take (run digB r)) := bs_eq (by rw [app_list, bs_list]; rfl)
  have hp := parse_ok (bs (45 :: r.take (run digB r))) (v := v) (hs := by rw [bs_size]; simp; omega) (h := by rw [bs_list, parse_neg _ (by intro e; rw [e] at hlen; simp at hlen; omega) (run_all _ _), hv]; rfl)
  have HL := Lib.hid hl
  have HR := Lib.hid hr1
  clear hl h95 hv hr1 hlen hd
  go_enter Tryd.func20, Tryd.ntmps20
  go_wp2_with (first | (go_at_call 31; refine (hcut _).mono ?_; rintro e w' ⟨rfl, rfl⟩) | (go_at_call 28; refine (span_dig' r _ hml).mono ?_; rintro e w' ⟨rfl, rfl⟩) | (go_at_call 32; refine (hp _).mono ?_; rintro e w' ⟨rfl, hb1⟩; obtain ⟨hc, hf⟩ := bcell hb1))
  exact bodyPost_ret (v := .tuple #[.agg #[.int .i64 2, .int .i64 0, .string (bs []), .int .i64 v], .int .i64 ((((bs (r.take (run digB r))).size : Nat) : Int) + 1), .int .i64 0]) (by simp [results, Tryd.results20, go_sem, hc, bs]) rfl (tok_ret (t := ⟨2, 0, [], v⟩) (by rw [hx.out, hbz2.out]; rfl) rfl (bset4 (((Below.refl _ _).alloc (Nat.le_refl _) _).trans (hb1.mono (by simp))) (Nat.le_refl _) _ _ _ _))
set_option maxHeartbeats 1000000 in
theorem number_neg_far (b : UInt8) (r : List UInt8) (s : ByteArray) (w : World) (hL : Laid w) (hs : s.size ≤ 140737488355328) (hl : s.data.toList = b :: r) (h95 : b.toNat = 95) (hd : 0 < run digB r) (hv : numR true (r.take (run digB r)) = none) : Calls Tryd.prog 20 #[.string s] w (Answers w (numberR b r)) := by
  have hx := Lib.hid (show numberR b r = (tk0, (0 : Int), (32 : Int)) by simp [numberR, h95, hd, hv, numA])
  have hr1 : s.size = r.length + 1 := by rw [← len_s, hl]; rfl
  have hrl : run digB r ≤ r.length := run_le _ _
  have hml : r.length ≤ maxLen := by unfold maxLen; omega
  obtain rfl : b = 95 := UInt8.toNat_inj.1 h95
  have hcut := cut_yes s 95 r (h := hl)
  have hlen : (r.take (run digB r)).length = run digB r := by rw [List.length_take]; omega
  have hq := show (bs r).extract 0 (run digB r) = bs (r.take (run digB r)) from bs_eq (by rw [ext_list, bs_list]; simp)
  have hbz := bs_size r
  have he := bs_empty (l := r.take (run digB r)) (by omega)
  have hbz2 := Lib.hid (show (bs (r.take (run digB r))).size = run digB r by rw [bs_size, hlen])
  have hbz3 : (bs (r.take (run digB r))).size ≤ 140737488355328 := by rw [hbz2.out]; omega
  have hcat : (⟨#[45]⟩ : ByteArray) ++ bs (r.take (run digB r)) = bs (45 :: r.take (run digB r)) := bs_eq (by rw [app_list, bs_list]; rfl)
  have hp := fun w hL => parse_range (bs (45 :: r.take (run digB r))) w hL (by rw [bs_size]; simp; omega) (by rw [bs_list, parse_neg _ (by intro e; rw [e] at hlen; simp at hlen; omega) (run_all _ _), hv]; rfl)
  have HL := Lib.hid hl
  have HR := Lib.hid hr1
  clear hl h95 hv hr1 hlen hd
  go_enter Tryd.func20, Tryd.ntmps20
  go_wp2_with (first | (go_at_call 31; refine (hcut _).mono ?_; rintro e w' ⟨rfl, rfl⟩) | (go_at_call 28; refine (span_dig' r _ hml).mono ?_; rintro e w' ⟨rfl, rfl⟩) | (go_at_call 32; refine (hp _ (hL.below ((Below.refl _ _).alloc (Nat.le_refl _) _))).mono ?_; rintro e w' ⟨v, t, p, rfl, hb1⟩; obtain ⟨hc, hf⟩ := bcell hb1))
  exact bodyPost_ret (v := .tuple #[.agg #[.int .i64 0, .int .i64 0, .string (bs []), .int .i64 0], .int .i64 0, .int .i64 32]) (by simp [results, Tryd.results20, go_sem, hc, bs]) rfl (none_ret hx.out (bset4 (((Below.refl _ _).alloc (Nat.le_refl _) _).trans (hb1.mono (by simp))) (Nat.le_refl _) _ _ _ _))
set_option maxHeartbeats 1000000 in
theorem number_pos (b : UInt8) (r : List UInt8) (s : ByteArray) (w : World) (v : Int) (hs : s.size ≤ 140737488355328) (hl : s.data.toList = b :: r) (h95 : b.toNat ≠ 95) (hd : digB b = true) (hv : numR false (b :: r.take (run digB r)) = some v) : Calls Tryd.prog 20 #[.string s] w (Answers w (numberR b r)) := by
  have hx := Lib.hid (show numberR b r = ((⟨2, 0, [], v⟩ : Tk), ((run digB r + 1 : Nat) : Int), (0 : Int)) by simp [numberR, h95, hd, hv, numA])
  have hr1 : s.size = r.length + 1 := by rw [← len_s, hl]; rfl
  have hrl : run digB r ≤ r.length := run_le _ _
  have hml : s.size ≤ maxLen := by unfold maxLen; omega
  have hrun := (show run digB s.data.toList = run digB r + 1 by rw [hl, run_cons, hd]; rfl)
  have hcut := cut_no s 95 (h := by rw [hl]; simp; intro e; exact h95 (by rw [e]; rfl))
  have hlen : (b :: r.take (run digB r)).length = run digB r + 1 := by rw [List.length_cons, List.length_take]; omega
  have hq := show s.extract 0 (run digB r + 1) = bs (b :: r.take (run digB r)) from bs_eq (by rw [ext_list, hl]; simp)
  have he := bs_empty (l := b :: r.take (run digB r)) (by omega)
  have hbz2 := Lib.hid (show (bs (b :: r.take (run digB r))).size = run digB r + 1 by rw [bs_size, hlen])
  have hle : run digB r + 1 ≤ s.size := by omega
  have hbz3 : (bs (b :: r.take (run digB r))).size ≤ 140737488355328 := by rw [hbz2.out]; omega
  have hall : ∀ d ∈ b :: r.take (run digB r), digB d = true := fun d hm => by
    rcases List.mem_cons.1 hm with rfl | hm
    · exact hd
    · exact run_all _ _ d hm
  have hp := parse_ok (bs (b :: r.take (run digB r))) (v := v) (hs := by rw [bs_size]; simp; omega) (h := by rw [bs_list, parse_pos _ _ hall, hv]; rfl)
  have HL := Lib.hid hl
  have HR := Lib.hid hr1
  clear hl h95 hv hr1 hlen hd hall
  go_enter Tryd.func20, Tryd.ntmps20
  go_wp2_with (first | (go_at_call 31; refine (hcut _).mono ?_; rintro e w' ⟨rfl, rfl⟩) | (go_at_call 28; refine (span_dig s _ hml).mono ?_; rintro e w' ⟨rfl, rfl⟩) | (go_at_call 32; refine (hp _).mono ?_; rintro e w' ⟨rfl, hb1⟩; obtain ⟨hc, hf⟩ := bcell hb1))
  exact bodyPost_ret (v := .tuple #[.agg #[.int .i64 2, .int .i64 0, .string (bs []), .int .i64 v], .int .i64 ((((bs (b :: r.take (run digB r))).size : Nat) : Int)), .int .i64 0]) (by simp [results, Tryd.results20, go_sem, hc, bs]) rfl (tok_ret (t := ⟨2, 0, [], v⟩) (by rw [hx.out, hbz2.out]) rfl (bset4 (((Below.refl _ _).alloc (Nat.le_refl _) _).trans (hb1.mono (by simp))) (Nat.le_refl _) _ _ _ _))
set_option maxHeartbeats 1000000 in
theorem number_pos_far (b : UInt8) (r : List UInt8) (s : ByteArray) (w : World) (hL : Laid w) (hs : s.size ≤ 140737488355328) (hl : s.data.toList = b :: r) (h95 : b.toNat ≠ 95) (hd : digB b = true) (hv : numR false (b :: r.take (run digB r)) = none) : Calls Tryd.prog 20 #[.string s] w (Answers w (numberR b r)) := by
  have hx := Lib.hid (show numberR b r = (tk0, (0 : Int), (32 : Int)) by simp [numberR, h95, hd, hv, numA])
  have hr1 : s.size = r.length + 1 := by rw [← len_s, hl]; rfl
  have hrl : run digB r ≤ r.length := run_le _ _
  have hml : s.size ≤ maxLen := by unfold maxLen; omega
  have hrun := (show run digB s.data.toList = run digB r + 1 by rw [hl, run_cons, hd]; rfl)
  have hcut := cut_no s 95 (h := by rw [hl]; simp; intro e; exact h95 (by rw [e]; rfl))
  have hlen : (b :: r.take (run digB r)).length = run digB r + 1 := by rw [List.length_cons, List.length_take]; omega
  have hq := show s.extract 0 (run digB r + 1) = bs (b :: r.take (run digB r)) from bs_eq (by rw [ext_list, hl]; simp)
  have he := bs_empty (l := b :: r.take (run digB r)) (by omega)
  have hbz2 := Lib.hid (show (bs (b :: r.take (run digB r))).size = run digB r + 1 by rw [bs_size, hlen])
  have hle : run digB r + 1 ≤ s.size := by omega
  have hbz3 : (bs (b :: r.take (run digB r))).size ≤ 140737488355328 := by rw [hbz2.out]; omega
  have hall : ∀ d ∈ b :: r.take (run digB r), digB d = true := fun d hm => by
    rcases List.mem_cons.1 hm with rfl | hm
    · exact hd
    · exact run_all _ _ d hm
  have hp := fun w hL => parse_range (bs (b :: r.take (run digB r))) w hL (by rw [bs_size]; simp; omega) (by rw [bs_list, parse_pos _ _ hall, hv]; rfl)
  have HL := Lib.hid hl
  have HR := Lib.hid hr1
  clear hl h95 hv hr1 hlen hd hall
  go_enter Tryd.func20, Tryd.ntmps20
  go_wp2_with (first | (go_at_call 31; refine (hcut _).mono ?_; rintro e w' ⟨rfl, rfl⟩) | (go_at_call 28; refine (span_dig s _ hml).mono ?_; rintro e w' ⟨rfl, rfl⟩) | (go_at_call 32; refine (hp _ (hL.below ((Below.refl _ _).alloc (Nat.le_refl _) _))).mono ?_; rintro e w' ⟨v, t, p, rfl, hb1⟩; obtain ⟨hc, hf⟩ := bcell hb1))
  exact bodyPost_ret (v := .tuple #[.agg #[.int .i64 0, .int .i64 0, .string (bs []), .int .i64 0], .int .i64 0, .int .i64 32]) (by simp [results, Tryd.results20, go_sem, hc, bs]) rfl (none_ret hx.out (bset4 (((Below.refl _ _).alloc (Nat.le_refl _) _).trans (hb1.mono (by simp))) (Nat.le_refl _) _ _ _ _))

theorem number_any (b : UInt8) (r : List UInt8) (s : ByteArray) (w : World) (hL : Laid w) (hs : s.size ≤ 140737488355328) (hl : s.data.toList = b :: r) : Calls Tryd.prog 20 #[.string s] w (Answers w (numberR b r)) := by
  by_cases h95 : b.toNat = 95
  · by_cases hd : 0 < run digB r
    · cases hv : numR true (r.take (run digB r)) with
      | some v => exact number_neg b r s w v hs hl h95 hd hv
      | none => exact number_neg_far b r s w hL hs hl h95 hd hv
    · exact number_no95 b r s w hs hl h95 (by omega)
  · cases hd : digB b with
    | true =>
      cases hv : numR false (b :: r.take (run digB r)) with
      | some v => exact number_pos b r s w v hs hl h95 hd hv
      | none => exact number_pos_far b r s w hL hs hl h95 hd hv
    | false => exact number_no b r s w hs hl h95 hd
end Go.Proofs.YtphcjpomneejmaaDoor
