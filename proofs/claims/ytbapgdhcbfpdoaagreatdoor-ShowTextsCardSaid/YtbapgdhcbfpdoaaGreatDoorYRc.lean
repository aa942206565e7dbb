/- The document's step: what is not well made. -/
import Derived.Test.YtbapgdhcbfpdoaaGreatDoorYRb
namespace Go.Proofs.YtbapgdhcbfpdoaaGreatDoor
open Go.RowKit
set_option linter.unusedVariables false
set_option linter.unusedSimpArgs false
set_option maxRecDepth 100000
theorem stR_none {st : List Pt} {x : It} {w w' : World} {B : Nat} (hst : stepP st x = none) (hb : Below B w w') (v : Value) : stR st x w B (.returned (.tuple #[v, .bool false])) w' := by
  refine ⟨hb, ?_⟩
  rw [hst]
  exact ⟨_, rfl⟩
theorem step_no {st : List Pt} {x : It} (h1 : x.how ≠ 1) (h2 : x.how ≠ 2) (h : okI x = false) : stepP st x = none := by
  unfold stepP
  rw [if_neg (by rintro (h | h); exact h1 h; exact h2 h), if_pos h]
theorem ok5_how {x : It} (h : x.how < 3 ∨ 7 < x.how) : okI x = false := by
  unfold okI
  rw [decide_eq_false (by intro hh; omega)]; rfl
theorem ok5_ns {x : It} (h : 0 < x.ns.length) : okI x = false := by
  unfold okI
  rw [decide_eq_false (by rintro ⟨_, _, hh, _⟩; rw [hh] at h; cases h)]; rfl
theorem ok5_nm {x : It} (h : x.nm ≠ []) : okI x = false := by
  unfold okI
  rw [decide_eq_false (by rintro ⟨_, _, _, hh, _⟩; exact h hh)]; rfl
theorem ok5_vb {x : It} (h : verbW x.fn (x.how != 3) = []) : okI x = false := by
  unfold okI
  rw [decide_eq_false (by rintro ⟨_, _, _, _, hh⟩; exact hh h)]; rfl
theorem ok5_tk {x : It} (h3 : x.how ≠ 3) (h4 : x.how ≠ 4) (h : tk2 x.fn = false) : okI x = false := by
  unfold okI
  rw [h, show (x.how == 3) = false by simpa using h3, show (x.how == 4) = false by simpa using h4]; simp
theorem step_nil {x : It} (h1 : x.how ≠ 1) (h2 : x.how ≠ 2) : stepP [] x = none := by
  unfold stepP
  rw [if_neg (by rintro (h | h); exact h1 h; exact h2 h)]
  split
  · rfl
  · split <;> rfl
theorem step_one {x : It} {p : Pt} (h : x.how = 4 ∨ x.how = 7) : stepP [p] x = none := by
  unfold stepP
  rw [if_neg (by rcases h with h | h <;> rw [h] <;> decide)]
  split
  · rfl
  · rw [if_pos (show twoI x = true by unfold twoI; exact decide_eq_true h)]
theorem step5_lo (x : It) (A : Option Addr) (c : Nat) (w : World) (B : Nat) (st : List Pt) (v : Value) (hB : B ≤ w.heap.size) (hh : x.how < 3) (h1 : x.how ≠ 1) (h2 : x.how ≠ 2) :
    Calls Tryz.prog 43 #[v, itX x A c] w (stR st x w B) := by
  have HS := Lib.hid (step_no (st := st) h1 h2 (ok5_how (.inl hh)))
  have t1 : (x.how == 1) = false := by simpa using h1
  have t2 : (x.how == 2) = false := by simpa using h2
  have t4 : (x.how == 4) = false := by rw [beq_eq_false_iff_ne]; omega
  have t7 : (x.how == 7) = false := by rw [beq_eq_false_iff_ne]; omega
  have HB := Lib.hid (show Below B w (w.alloc (.cells #[.int .i64 x.how, .int .i64 x.pl, .int .u8 x.fn, .string (bs x.nm), .slice A x.ns.length c] 37)) from (Below.refl _ _).alloc hB _)
  unfold itX itW
  clear h1 h2 hB
  go_enter Tryz.func43, Tryz.ntmps43
  go_wp2
  exact bodyPost_ret (v := .tuple #[.slice none 0 0, .bool false]) (R := stR st x w B) (by simp [results, Tryz.results43, go_sem]) rfl (stR_none HS.out HB.out _)
theorem step5_hi (x : It) (A : Option Addr) (c : Nat) (w : World) (B : Nat) (st : List Pt) (v : Value) (hB : B ≤ w.heap.size) (hh : 7 < x.how) :
    Calls Tryz.prog 43 #[v, itX x A c] w (stR st x w B) := by
  have HS := Lib.hid (step_no (st := st) (by omega) (by omega) (ok5_how (.inr hh)))
  have t1 : (x.how == 1) = false := by rw [beq_eq_false_iff_ne]; omega
  have t2 : (x.how == 2) = false := by rw [beq_eq_false_iff_ne]; omega
  have t4 : (x.how == 4) = false := by rw [beq_eq_false_iff_ne]; omega
  have t7 : (x.how == 7) = false := by rw [beq_eq_false_iff_ne]; omega
  have HB := Lib.hid (show Below B w (w.alloc (.cells #[.int .i64 x.how, .int .i64 x.pl, .int .u8 x.fn, .string (bs x.nm), .slice A x.ns.length c] 37)) from (Below.refl _ _).alloc hB _)
  unfold itX itW
  clear hB
  go_enter Tryz.func43, Tryz.ntmps43
  go_wp2
  exact bodyPost_ret (v := .tuple #[.slice none 0 0, .bool false]) (R := stR st x w B) (by simp [results, Tryz.results43, go_sem]) rfl (stR_none HS.out HB.out _)
theorem step5_ns3 (x : It) (A : Option Addr) (c : Nat) (w : World) (B : Nat) (st : List Pt) (v : Value) (hB : B ≤ w.heap.size) (hh : x.how = 3) (h : 0 < x.ns.length) (hl : x.ns.length ≤ 9223372036854775807) :
    Calls Tryz.prog 43 #[v, itX x A c] w (stR st x w B) := by
  have HS := Lib.hid (step_no (st := st) (by omega) (by omega) (ok5_ns h))
  have hb : Below B w (w.alloc (.cells #[.int .i64 x.how, .int .i64 x.pl, .int .u8 x.fn, .string (bs x.nm), .slice A x.ns.length c] 37)) := (Below.refl _ _).alloc hB _
  unfold itX itW
  rw [hh] at hb ⊢
  obtain ⟨n, hn⟩ : ∃ n, n = x.ns.length := ⟨_, rfl⟩
  rw [← hn] at hb h hl ⊢
  have HB := Lib.hid hb
  clear hB hh hb hn
  go_enter Tryz.func43, Tryz.ntmps43
  go_wp2
  exact bodyPost_ret (v := .tuple #[.slice none 0 0, .bool false]) (R := stR st x w B) (by simp [results, Tryz.results43, go_sem]) rfl (stR_none HS.out HB.out _)
theorem step5_nm3 (x : It) (A : Option Addr) (c : Nat) (w : World) (B : Nat) (st : List Pt) (v : Value) (hB : B ≤ w.heap.size) (hh : x.how = 3) (h0 : x.ns.length = 0) (h : x.nm ≠ []) :
    Calls Tryz.prog 43 #[v, itX x A c] w (stR st x w B) := by
  have HS := Lib.hid (step_no (st := st) (by omega) (by omega) (ok5_nm h))
  have hb : Below B w (w.alloc (.cells #[.int .i64 x.how, .int .i64 x.pl, .int .u8 x.fn, .string (bs x.nm), .slice A x.ns.length c] 37)) := (Below.refl _ _).alloc hB _
  have hbn : ((bs x.nm).toList == []) = false := cmpNo h
  have hbm : ((bs x.nm).toList != []) = true := by rw [bne, hbn]; rfl
  unfold itX itW
  rw [hh, h0] at hb ⊢
  have HB := Lib.hid hb
  clear hB hh hb h0 h
  go_enter Tryz.func43, Tryz.ntmps43
  go_wp2
  exact bodyPost_ret (v := .tuple #[.slice none 0 0, .bool false]) (R := stR st x w B) (by simp [results, Tryz.results43, go_sem]) rfl (stR_none HS.out HB.out _)
theorem step5_nil3 (x : It) (A : Option Addr) (c : Nat) (w : World) (B : Nat) (A0 : Option Addr) (c0 : Nat) (hB : B ≤ w.heap.size) (hh : x.how = 3) (h0 : x.ns.length = 0) (h : x.nm = []) :
    Calls Tryz.prog 43 #[.slice A0 0 c0, itX x A c] w (stR [] x w B) := by
  have HS := Lib.hid (step_nil (x := x) (by omega) (by omega))
  have hb : Below B w (w.alloc (.cells #[.int .i64 x.how, .int .i64 x.pl, .int .u8 x.fn, .string (bs x.nm), .slice A x.ns.length c] 37)) := (Below.refl _ _).alloc hB _
  unfold itX itW
  rw [hh, h0, h] at hb ⊢
  have hbn : ((bs []).toList == []) = true := cmpYes rfl
  have hbm : ((bs []).toList != []) = false := by rw [bne, hbn]; rfl
  have HB := Lib.hid hb
  clear hB hh hb h0 h
  go_enter Tryz.func43, Tryz.ntmps43
  go_wp2
  exact bodyPost_ret (v := .tuple #[.slice none 0 0, .bool false]) (R := stR [] x w B) (by simp [results, Tryz.results43, go_sem]) rfl (stR_none HS.out HB.out _)
theorem step5_ns4 (x : It) (A : Option Addr) (c : Nat) (w : World) (B : Nat) (st : List Pt) (v : Value) (hB : B ≤ w.heap.size) (hh : x.how = 4) (h : 0 < x.ns.length) (hl : x.ns.length ≤ 9223372036854775807) :
    Calls Tryz.prog 43 #[v, itX x A c] w (stR st x w B) := by
  have HS := Lib.hid (step_no (st := st) (by omega) (by omega) (ok5_ns h))
  have hb : Below B w (w.alloc (.cells #[.int .i64 x.how, .int .i64 x.pl, .int .u8 x.fn, .string (bs x.nm), .slice A x.ns.length c] 37)) := (Below.refl _ _).alloc hB _
  unfold itX itW
  rw [hh] at hb ⊢
  obtain ⟨n, hn⟩ : ∃ n, n = x.ns.length := ⟨_, rfl⟩
  rw [← hn] at hb h hl ⊢
  have HB := Lib.hid hb
  clear hB hh hb hn
  go_enter Tryz.func43, Tryz.ntmps43
  go_wp2
  exact bodyPost_ret (v := .tuple #[.slice none 0 0, .bool false]) (R := stR st x w B) (by simp [results, Tryz.results43, go_sem]) rfl (stR_none HS.out HB.out _)
theorem step5_nm4 (x : It) (A : Option Addr) (c : Nat) (w : World) (B : Nat) (st : List Pt) (v : Value) (hB : B ≤ w.heap.size) (hh : x.how = 4) (h0 : x.ns.length = 0) (h : x.nm ≠ []) :
    Calls Tryz.prog 43 #[v, itX x A c] w (stR st x w B) := by
  have HS := Lib.hid (step_no (st := st) (by omega) (by omega) (ok5_nm h))
  have hb : Below B w (w.alloc (.cells #[.int .i64 x.how, .int .i64 x.pl, .int .u8 x.fn, .string (bs x.nm), .slice A x.ns.length c] 37)) := (Below.refl _ _).alloc hB _
  have hbn : ((bs x.nm).toList == []) = false := cmpNo h
  have hbm : ((bs x.nm).toList != []) = true := by rw [bne, hbn]; rfl
  unfold itX itW
  rw [hh, h0] at hb ⊢
  have HB := Lib.hid hb
  clear hB hh hb h0 h
  go_enter Tryz.func43, Tryz.ntmps43
  go_wp2
  exact bodyPost_ret (v := .tuple #[.slice none 0 0, .bool false]) (R := stR st x w B) (by simp [results, Tryz.results43, go_sem]) rfl (stR_none HS.out HB.out _)
theorem step5_nil4 (x : It) (A : Option Addr) (c : Nat) (w : World) (B : Nat) (A0 : Option Addr) (c0 : Nat) (hB : B ≤ w.heap.size) (hh : x.how = 4) (h0 : x.ns.length = 0) (h : x.nm = []) :
    Calls Tryz.prog 43 #[.slice A0 0 c0, itX x A c] w (stR [] x w B) := by
  have HS := Lib.hid (step_nil (x := x) (by omega) (by omega))
  have hb : Below B w (w.alloc (.cells #[.int .i64 x.how, .int .i64 x.pl, .int .u8 x.fn, .string (bs x.nm), .slice A x.ns.length c] 37)) := (Below.refl _ _).alloc hB _
  unfold itX itW
  rw [hh, h0, h] at hb ⊢
  have hbn : ((bs []).toList == []) = true := cmpYes rfl
  have hbm : ((bs []).toList != []) = false := by rw [bne, hbn]; rfl
  have HB := Lib.hid hb
  clear hB hh hb h0 h
  go_enter Tryz.func43, Tryz.ntmps43
  go_wp2
  exact bodyPost_ret (v := .tuple #[.slice none 0 0, .bool false]) (R := stR [] x w B) (by simp [results, Tryz.results43, go_sem]) rfl (stR_none HS.out HB.out _)
theorem step5_ns5 (x : It) (A : Option Addr) (c : Nat) (w : World) (B : Nat) (st : List Pt) (v : Value) (hB : B ≤ w.heap.size) (hh : x.how = 5) (h : 0 < x.ns.length) (hl : x.ns.length ≤ 9223372036854775807) :
    Calls Tryz.prog 43 #[v, itX x A c] w (stR st x w B) := by
  have HS := Lib.hid (step_no (st := st) (by omega) (by omega) (ok5_ns h))
  have hb : Below B w (w.alloc (.cells #[.int .i64 x.how, .int .i64 x.pl, .int .u8 x.fn, .string (bs x.nm), .slice A x.ns.length c] 37)) := (Below.refl _ _).alloc hB _
  unfold itX itW
  rw [hh] at hb ⊢
  obtain ⟨n, hn⟩ : ∃ n, n = x.ns.length := ⟨_, rfl⟩
  rw [← hn] at hb h hl ⊢
  have HB := Lib.hid hb
  clear hB hh hb hn
  go_enter Tryz.func43, Tryz.ntmps43
  go_wp2
  exact bodyPost_ret (v := .tuple #[.slice none 0 0, .bool false]) (R := stR st x w B) (by simp [results, Tryz.results43, go_sem]) rfl (stR_none HS.out HB.out _)
theorem step5_nm5 (x : It) (A : Option Addr) (c : Nat) (w : World) (B : Nat) (st : List Pt) (v : Value) (hB : B ≤ w.heap.size) (hh : x.how = 5) (h0 : x.ns.length = 0) (h : x.nm ≠ []) :
    Calls Tryz.prog 43 #[v, itX x A c] w (stR st x w B) := by
  have HS := Lib.hid (step_no (st := st) (by omega) (by omega) (ok5_nm h))
  have hb : Below B w (w.alloc (.cells #[.int .i64 x.how, .int .i64 x.pl, .int .u8 x.fn, .string (bs x.nm), .slice A x.ns.length c] 37)) := (Below.refl _ _).alloc hB _
  have hbn : ((bs x.nm).toList == []) = false := cmpNo h
  have hbm : ((bs x.nm).toList != []) = true := by rw [bne, hbn]; rfl
  unfold itX itW
  rw [hh, h0] at hb ⊢
  have HB := Lib.hid hb
  clear hB hh hb h0 h
  go_enter Tryz.func43, Tryz.ntmps43
  go_wp2
  exact bodyPost_ret (v := .tuple #[.slice none 0 0, .bool false]) (R := stR st x w B) (by simp [results, Tryz.results43, go_sem]) rfl (stR_none HS.out HB.out _)
theorem step5_nil5 (x : It) (A : Option Addr) (c : Nat) (w : World) (B : Nat) (A0 : Option Addr) (c0 : Nat) (hB : B ≤ w.heap.size) (hh : x.how = 5) (h0 : x.ns.length = 0) (h : x.nm = []) :
    Calls Tryz.prog 43 #[.slice A0 0 c0, itX x A c] w (stR [] x w B) := by
  have HS := Lib.hid (step_nil (x := x) (by omega) (by omega))
  have hb : Below B w (w.alloc (.cells #[.int .i64 x.how, .int .i64 x.pl, .int .u8 x.fn, .string (bs x.nm), .slice A x.ns.length c] 37)) := (Below.refl _ _).alloc hB _
  unfold itX itW
  rw [hh, h0, h] at hb ⊢
  have hbn : ((bs []).toList == []) = true := cmpYes rfl
  have hbm : ((bs []).toList != []) = false := by rw [bne, hbn]; rfl
  have HB := Lib.hid hb
  clear hB hh hb h0 h
  go_enter Tryz.func43, Tryz.ntmps43
  go_wp2
  exact bodyPost_ret (v := .tuple #[.slice none 0 0, .bool false]) (R := stR [] x w B) (by simp [results, Tryz.results43, go_sem]) rfl (stR_none HS.out HB.out _)
theorem step5_ns6 (x : It) (A : Option Addr) (c : Nat) (w : World) (B : Nat) (st : List Pt) (v : Value) (hB : B ≤ w.heap.size) (hh : x.how = 6) (h : 0 < x.ns.length) (hl : x.ns.length ≤ 9223372036854775807) :
    Calls Tryz.prog 43 #[v, itX x A c] w (stR st x w B) := by
  have HS := Lib.hid (step_no (st := st) (by omega) (by omega) (ok5_ns h))
  have hb : Below B w (w.alloc (.cells #[.int .i64 x.how, .int .i64 x.pl, .int .u8 x.fn, .string (bs x.nm), .slice A x.ns.length c] 37)) := (Below.refl _ _).alloc hB _
  unfold itX itW
  rw [hh] at hb ⊢
  obtain ⟨n, hn⟩ : ∃ n, n = x.ns.length := ⟨_, rfl⟩
  rw [← hn] at hb h hl ⊢
  have HB := Lib.hid hb
  clear hB hh hb hn
  go_enter Tryz.func43, Tryz.ntmps43
  go_wp2
  exact bodyPost_ret (v := .tuple #[.slice none 0 0, .bool false]) (R := stR st x w B) (by simp [results, Tryz.results43, go_sem]) rfl (stR_none HS.out HB.out _)
theorem step5_nm6 (x : It) (A : Option Addr) (c : Nat) (w : World) (B : Nat) (st : List Pt) (v : Value) (hB : B ≤ w.heap.size) (hh : x.how = 6) (h0 : x.ns.length = 0) (h : x.nm ≠ []) :
    Calls Tryz.prog 43 #[v, itX x A c] w (stR st x w B) := by
  have HS := Lib.hid (step_no (st := st) (by omega) (by omega) (ok5_nm h))
  have hb : Below B w (w.alloc (.cells #[.int .i64 x.how, .int .i64 x.pl, .int .u8 x.fn, .string (bs x.nm), .slice A x.ns.length c] 37)) := (Below.refl _ _).alloc hB _
  have hbn : ((bs x.nm).toList == []) = false := cmpNo h
  have hbm : ((bs x.nm).toList != []) = true := by rw [bne, hbn]; rfl
  unfold itX itW
  rw [hh, h0] at hb ⊢
  have HB := Lib.hid hb
  clear hB hh hb h0 h
  go_enter Tryz.func43, Tryz.ntmps43
  go_wp2
  exact bodyPost_ret (v := .tuple #[.slice none 0 0, .bool false]) (R := stR st x w B) (by simp [results, Tryz.results43, go_sem]) rfl (stR_none HS.out HB.out _)
theorem step5_nil6 (x : It) (A : Option Addr) (c : Nat) (w : World) (B : Nat) (A0 : Option Addr) (c0 : Nat) (hB : B ≤ w.heap.size) (hh : x.how = 6) (h0 : x.ns.length = 0) (h : x.nm = []) :
    Calls Tryz.prog 43 #[.slice A0 0 c0, itX x A c] w (stR [] x w B) := by
  have HS := Lib.hid (step_nil (x := x) (by omega) (by omega))
  have hb : Below B w (w.alloc (.cells #[.int .i64 x.how, .int .i64 x.pl, .int .u8 x.fn, .string (bs x.nm), .slice A x.ns.length c] 37)) := (Below.refl _ _).alloc hB _
  unfold itX itW
  rw [hh, h0, h] at hb ⊢
  have hbn : ((bs []).toList == []) = true := cmpYes rfl
  have hbm : ((bs []).toList != []) = false := by rw [bne, hbn]; rfl
  have HB := Lib.hid hb
  clear hB hh hb h0 h
  go_enter Tryz.func43, Tryz.ntmps43
  go_wp2
  exact bodyPost_ret (v := .tuple #[.slice none 0 0, .bool false]) (R := stR [] x w B) (by simp [results, Tryz.results43, go_sem]) rfl (stR_none HS.out HB.out _)
theorem step5_ns7 (x : It) (A : Option Addr) (c : Nat) (w : World) (B : Nat) (st : List Pt) (v : Value) (hB : B ≤ w.heap.size) (hh : x.how = 7) (h : 0 < x.ns.length) (hl : x.ns.length ≤ 9223372036854775807) :
    Calls Tryz.prog 43 #[v, itX x A c] w (stR st x w B) := by
  have HS := Lib.hid (step_no (st := st) (by omega) (by omega) (ok5_ns h))
  have hb : Below B w (w.alloc (.cells #[.int .i64 x.how, .int .i64 x.pl, .int .u8 x.fn, .string (bs x.nm), .slice A x.ns.length c] 37)) := (Below.refl _ _).alloc hB _
  unfold itX itW
  rw [hh] at hb ⊢
  obtain ⟨n, hn⟩ : ∃ n, n = x.ns.length := ⟨_, rfl⟩
  rw [← hn] at hb h hl ⊢
  have HB := Lib.hid hb
  clear hB hh hb hn
  go_enter Tryz.func43, Tryz.ntmps43
  go_wp2
  exact bodyPost_ret (v := .tuple #[.slice none 0 0, .bool false]) (R := stR st x w B) (by simp [results, Tryz.results43, go_sem]) rfl (stR_none HS.out HB.out _)
theorem step5_nm7 (x : It) (A : Option Addr) (c : Nat) (w : World) (B : Nat) (st : List Pt) (v : Value) (hB : B ≤ w.heap.size) (hh : x.how = 7) (h0 : x.ns.length = 0) (h : x.nm ≠ []) :
    Calls Tryz.prog 43 #[v, itX x A c] w (stR st x w B) := by
  have HS := Lib.hid (step_no (st := st) (by omega) (by omega) (ok5_nm h))
  have hb : Below B w (w.alloc (.cells #[.int .i64 x.how, .int .i64 x.pl, .int .u8 x.fn, .string (bs x.nm), .slice A x.ns.length c] 37)) := (Below.refl _ _).alloc hB _
  have hbn : ((bs x.nm).toList == []) = false := cmpNo h
  have hbm : ((bs x.nm).toList != []) = true := by rw [bne, hbn]; rfl
  unfold itX itW
  rw [hh, h0] at hb ⊢
  have HB := Lib.hid hb
  clear hB hh hb h0 h
  go_enter Tryz.func43, Tryz.ntmps43
  go_wp2
  exact bodyPost_ret (v := .tuple #[.slice none 0 0, .bool false]) (R := stR st x w B) (by simp [results, Tryz.results43, go_sem]) rfl (stR_none HS.out HB.out _)
theorem step5_nil7 (x : It) (A : Option Addr) (c : Nat) (w : World) (B : Nat) (A0 : Option Addr) (c0 : Nat) (hB : B ≤ w.heap.size) (hh : x.how = 7) (h0 : x.ns.length = 0) (h : x.nm = []) :
    Calls Tryz.prog 43 #[.slice A0 0 c0, itX x A c] w (stR [] x w B) := by
  have HS := Lib.hid (step_nil (x := x) (by omega) (by omega))
  have hb : Below B w (w.alloc (.cells #[.int .i64 x.how, .int .i64 x.pl, .int .u8 x.fn, .string (bs x.nm), .slice A x.ns.length c] 37)) := (Below.refl _ _).alloc hB _
  unfold itX itW
  rw [hh, h0, h] at hb ⊢
  have hbn : ((bs []).toList == []) = true := cmpYes rfl
  have hbm : ((bs []).toList != []) = false := by rw [bne, hbn]; rfl
  have HB := Lib.hid hb
  clear hB hh hb h0 h
  go_enter Tryz.func43, Tryz.ntmps43
  go_wp2
  exact bodyPost_ret (v := .tuple #[.slice none 0 0, .bool false]) (R := stR [] x w B) (by simp [results, Tryz.results43, go_sem]) rfl (stR_none HS.out HB.out _)
theorem step5_one4 (x : It) (A : Option Addr) (c : Nat) (w : World) (B : Nat) (p : Pt) (A0 : Option Addr) (c0 : Nat) (hB : B ≤ w.heap.size) (hh : x.how = 4) (h0 : x.ns.length = 0) (h : x.nm = []) :
    Calls Tryz.prog 43 #[.slice A0 1 c0, itX x A c] w (stR [p] x w B) := by
  have HS := Lib.hid (step_one (x := x) (p := p) (by omega))
  have hb : Below B w (w.alloc (.cells #[.int .i64 x.how, .int .i64 x.pl, .int .u8 x.fn, .string (bs x.nm), .slice A x.ns.length c] 37)) := (Below.refl _ _).alloc hB _
  unfold itX itW
  rw [hh, h0, h] at hb ⊢
  have hbn : ((bs []).toList == []) = true := cmpYes rfl
  have hbm : ((bs []).toList != []) = false := by rw [bne, hbn]; rfl
  have HB := Lib.hid hb
  clear hB hh hb h0 h
  go_enter Tryz.func43, Tryz.ntmps43
  go_wp2
  exact bodyPost_ret (v := .tuple #[.slice none 0 0, .bool false]) (R := stR [p] x w B) (by simp [results, Tryz.results43, go_sem]) rfl (stR_none HS.out HB.out _)
theorem step5_one7 (x : It) (A : Option Addr) (c : Nat) (w : World) (B : Nat) (p : Pt) (A0 : Option Addr) (c0 : Nat) (hB : B ≤ w.heap.size) (hh : x.how = 7) (h0 : x.ns.length = 0) (h : x.nm = []) :
    Calls Tryz.prog 43 #[.slice A0 1 c0, itX x A c] w (stR [p] x w B) := by
  have HS := Lib.hid (step_one (x := x) (p := p) (by omega))
  have hb : Below B w (w.alloc (.cells #[.int .i64 x.how, .int .i64 x.pl, .int .u8 x.fn, .string (bs x.nm), .slice A x.ns.length c] 37)) := (Below.refl _ _).alloc hB _
  unfold itX itW
  rw [hh, h0, h] at hb ⊢
  have hbn : ((bs []).toList == []) = true := cmpYes rfl
  have hbm : ((bs []).toList != []) = false := by rw [bne, hbn]; rfl
  have HB := Lib.hid hb
  clear hB hh hb h0 h
  go_enter Tryz.func43, Tryz.ntmps43
  go_wp2
  exact bodyPost_ret (v := .tuple #[.slice none 0 0, .bool false]) (R := stR [p] x w B) (by simp [results, Tryz.results43, go_sem]) rfl (stR_none HS.out HB.out _)
theorem step5_vb3 (x : It) (A : Option Addr) (c : Nat) (w : World) (B : Nat) (st : List Pt) (g m c0 : Nat) (p : Pt) (hB : B ≤ w.heap.size) (hg : g < w.heap.size) (hm0 : 0 ≤ m) (hm : m ≤ 1000) (hc0 : m + 1 ≤ c0) (hh : x.how = 3) (h0 : x.ns.length = 0) (h : x.nm = []) (hv : verbW x.fn false = [])
    (p0 : w.cell? ⟨g, m * 4, none⟩ = some (.string (bs p.s))) (p1 : w.cell? ⟨g, m * 4 + 1, none⟩ = some (.bool p.pl)) (p2 : w.cell? ⟨g, m * 4 + 2, none⟩ = some (.int .i64 p.tk)) (p3 : w.cell? ⟨g, m * 4 + 3, none⟩ = some (.int .i64 p.ne)) :
    Calls Tryz.prog 43 #[.slice (some ⟨g, 0, none⟩) (m + 1) c0, itX x A c] w (stR st x w B) := by
  have HS := Lib.hid (step_no (x := x) (st := st) (by omega) (by omega) (ok5_vb (by rw [hh]; exact hv)))
  have hb : Below B w (w.alloc (.cells #[.int .i64 x.how, .int .i64 x.pl, .int .u8 x.fn, .string (bs x.nm), .slice A x.ns.length c] 37)) := (Below.refl _ _).alloc hB _
  have hb0 : Below w.heap.size w (w.alloc (.cells #[.int .i64 x.how, .int .i64 x.pl, .int .u8 x.fn, .string (bs x.nm), .slice A x.ns.length c] 37)) := (Below.refl _ _).alloc (Nat.le_refl _) _
  unfold itX itW
  rw [hh, h0, h] at hb hb0 ⊢
  have hvb := fun W => verb5_any x.fn false W
  rw [hv] at hvb
  have HV := Lib.hid hvb
  have hbn : ((bs []).toList == []) = true := cmpYes rfl
  have hbm : ((bs []).toList != []) = false := by rw [bne, hbn]; rfl
  have q1 := idxPt g (m + 1) c0 m (by omega)
  have HB := Lib.hid hb
  have hgne : ¬ g = w.heap.size := by omega
  have HX := Lib.hid (And.intro hh hB)
  clear hB hh hb hb0 h0 h hvb hv
  go_enter Tryz.func43, Tryz.ntmps43
  go_wp2_with fail
  obtain ⟨V, hV⟩ : ∃ V, V = (w.alloc (.cells #[.int .i64 3, .int .i64 x.pl, .int .u8 x.fn, .string (bs []), .slice A 0 c] 37)).alloc (.cells #[.string (bs p.s), .bool p.pl, .int .i64 p.tk, .int .i64 p.ne] 92) := ⟨_, rfl⟩
  have hbv : Below B w V := by rw [hV]; exact HB.out.alloc (Nat.le_trans HX.out.2 (by simp)) _
  have hi : V.heap[w.heap.size]? = some (.cells #[.int .i64 3, .int .i64 x.pl, .int .u8 x.fn, .string (bs []), .slice A 0 c] 37 (0, 0)) := by rw [hV]; exact box1 w _ _
  have BV := Lib.hid hbv
  have HI := Lib.hid hi
  have HVV := Lib.hid hV
  clear hV hbv hi
  rw [← HVV.out]
  refine (HV.out _).mono ?_
  rintro e w2 ⟨rfl, b2⟩
  have B2 := Lib.hid (BV.out.trans (b2.mono (Nat.le_trans HX.out.2 BV.out.size)))
  have hi2 := (b2.block _ (heap_lt HI.out)).trans HI.out
  have y0 : w2.cell? ⟨w.heap.size, 0, none⟩ = some (.int .i64 3) := by rw [cell_of_row _ _ _ _ _ _ hi2]; rfl
  have y2 : w2.cell? ⟨w.heap.size, 2, none⟩ = some (.int .u8 x.fn) := by rw [cell_of_row _ _ _ _ _ _ hi2]; rfl
  clear b2 hi2 p0 p1 p2 p3 q1
  go_wp2
  exact bodyPost_ret (v := .tuple #[.slice none 0 0, .bool false]) (R := stR st x w B) (by simp [results, Tryz.results43, go_sem]) rfl (stR_none HS.out B2.out _)
theorem step5_vb4 (x : It) (A : Option Addr) (c : Nat) (w : World) (B : Nat) (st : List Pt) (g m c0 : Nat) (p : Pt) (hB : B ≤ w.heap.size) (hg : g < w.heap.size) (hm0 : 1 ≤ m) (hm : m ≤ 1000) (hc0 : m + 1 ≤ c0) (hh : x.how = 4) (h0 : x.ns.length = 0) (h : x.nm = []) (hv : verbW x.fn true = [])
    (p0 : w.cell? ⟨g, m * 4, none⟩ = some (.string (bs p.s))) (p1 : w.cell? ⟨g, m * 4 + 1, none⟩ = some (.bool p.pl)) (p2 : w.cell? ⟨g, m * 4 + 2, none⟩ = some (.int .i64 p.tk)) (p3 : w.cell? ⟨g, m * 4 + 3, none⟩ = some (.int .i64 p.ne)) :
    Calls Tryz.prog 43 #[.slice (some ⟨g, 0, none⟩) (m + 1) c0, itX x A c] w (stR st x w B) := by
  have HS := Lib.hid (step_no (x := x) (st := st) (by omega) (by omega) (ok5_vb (by rw [hh]; exact hv)))
  have hb : Below B w (w.alloc (.cells #[.int .i64 x.how, .int .i64 x.pl, .int .u8 x.fn, .string (bs x.nm), .slice A x.ns.length c] 37)) := (Below.refl _ _).alloc hB _
  have hb0 : Below w.heap.size w (w.alloc (.cells #[.int .i64 x.how, .int .i64 x.pl, .int .u8 x.fn, .string (bs x.nm), .slice A x.ns.length c] 37)) := (Below.refl _ _).alloc (Nat.le_refl _) _
  unfold itX itW
  rw [hh, h0, h] at hb hb0 ⊢
  have hvb := fun W => verb5_any x.fn true W
  rw [hv] at hvb
  have HV := Lib.hid hvb
  have hbn : ((bs []).toList == []) = true := cmpYes rfl
  have hbm : ((bs []).toList != []) = false := by rw [bne, hbn]; rfl
  have q1 := idxPt g (m + 1) c0 m (by omega)
  have HB := Lib.hid hb
  have hgne : ¬ g = w.heap.size := by omega
  have HX := Lib.hid (And.intro hh hB)
  clear hB hh hb hb0 h0 h hvb hv
  go_enter Tryz.func43, Tryz.ntmps43
  go_wp2_with fail
  obtain ⟨V, hV⟩ : ∃ V, V = (w.alloc (.cells #[.int .i64 4, .int .i64 x.pl, .int .u8 x.fn, .string (bs []), .slice A 0 c] 37)).alloc (.cells #[.string (bs p.s), .bool p.pl, .int .i64 p.tk, .int .i64 p.ne] 92) := ⟨_, rfl⟩
  have hbv : Below B w V := by rw [hV]; exact HB.out.alloc (Nat.le_trans HX.out.2 (by simp)) _
  have hi : V.heap[w.heap.size]? = some (.cells #[.int .i64 4, .int .i64 x.pl, .int .u8 x.fn, .string (bs []), .slice A 0 c] 37 (0, 0)) := by rw [hV]; exact box1 w _ _
  have BV := Lib.hid hbv
  have HI := Lib.hid hi
  have HVV := Lib.hid hV
  clear hV hbv hi
  rw [← HVV.out]
  refine (HV.out _).mono ?_
  rintro e w2 ⟨rfl, b2⟩
  have B2 := Lib.hid (BV.out.trans (b2.mono (Nat.le_trans HX.out.2 BV.out.size)))
  have hi2 := (b2.block _ (heap_lt HI.out)).trans HI.out
  have y0 : w2.cell? ⟨w.heap.size, 0, none⟩ = some (.int .i64 4) := by rw [cell_of_row _ _ _ _ _ _ hi2]; rfl
  have y2 : w2.cell? ⟨w.heap.size, 2, none⟩ = some (.int .u8 x.fn) := by rw [cell_of_row _ _ _ _ _ _ hi2]; rfl
  clear b2 hi2 p0 p1 p2 p3 q1
  go_wp2
  exact bodyPost_ret (v := .tuple #[.slice none 0 0, .bool false]) (R := stR st x w B) (by simp [results, Tryz.results43, go_sem]) rfl (stR_none HS.out B2.out _)
theorem step5_vb5 (x : It) (A : Option Addr) (c : Nat) (w : World) (B : Nat) (st : List Pt) (g m c0 : Nat) (p : Pt) (hB : B ≤ w.heap.size) (hg : g < w.heap.size) (hm0 : 0 ≤ m) (hm : m ≤ 1000) (hc0 : m + 1 ≤ c0) (hh : x.how = 5) (h0 : x.ns.length = 0) (h : x.nm = []) (hv : verbW x.fn true = [])
    (p0 : w.cell? ⟨g, m * 4, none⟩ = some (.string (bs p.s))) (p1 : w.cell? ⟨g, m * 4 + 1, none⟩ = some (.bool p.pl)) (p2 : w.cell? ⟨g, m * 4 + 2, none⟩ = some (.int .i64 p.tk)) (p3 : w.cell? ⟨g, m * 4 + 3, none⟩ = some (.int .i64 p.ne)) :
    Calls Tryz.prog 43 #[.slice (some ⟨g, 0, none⟩) (m + 1) c0, itX x A c] w (stR st x w B) := by
  have HS := Lib.hid (step_no (x := x) (st := st) (by omega) (by omega) (ok5_vb (by rw [hh]; exact hv)))
  have hb : Below B w (w.alloc (.cells #[.int .i64 x.how, .int .i64 x.pl, .int .u8 x.fn, .string (bs x.nm), .slice A x.ns.length c] 37)) := (Below.refl _ _).alloc hB _
  have hb0 : Below w.heap.size w (w.alloc (.cells #[.int .i64 x.how, .int .i64 x.pl, .int .u8 x.fn, .string (bs x.nm), .slice A x.ns.length c] 37)) := (Below.refl _ _).alloc (Nat.le_refl _) _
  unfold itX itW
  rw [hh, h0, h] at hb hb0 ⊢
  have hvb := fun W => verb5_any x.fn true W
  rw [hv] at hvb
  have HV := Lib.hid hvb
  have hbn : ((bs []).toList == []) = true := cmpYes rfl
  have hbm : ((bs []).toList != []) = false := by rw [bne, hbn]; rfl
  have q1 := idxPt g (m + 1) c0 m (by omega)
  have HB := Lib.hid hb
  have hgne : ¬ g = w.heap.size := by omega
  have HX := Lib.hid (And.intro hh hB)
  clear hB hh hb hb0 h0 h hvb hv
  go_enter Tryz.func43, Tryz.ntmps43
  go_wp2_with fail
  obtain ⟨V, hV⟩ : ∃ V, V = (w.alloc (.cells #[.int .i64 5, .int .i64 x.pl, .int .u8 x.fn, .string (bs []), .slice A 0 c] 37)).alloc (.cells #[.string (bs p.s), .bool p.pl, .int .i64 p.tk, .int .i64 p.ne] 92) := ⟨_, rfl⟩
  have hbv : Below B w V := by rw [hV]; exact HB.out.alloc (Nat.le_trans HX.out.2 (by simp)) _
  have hi : V.heap[w.heap.size]? = some (.cells #[.int .i64 5, .int .i64 x.pl, .int .u8 x.fn, .string (bs []), .slice A 0 c] 37 (0, 0)) := by rw [hV]; exact box1 w _ _
  have BV := Lib.hid hbv
  have HI := Lib.hid hi
  have HVV := Lib.hid hV
  clear hV hbv hi
  rw [← HVV.out]
  refine (HV.out _).mono ?_
  rintro e w2 ⟨rfl, b2⟩
  have B2 := Lib.hid (BV.out.trans (b2.mono (Nat.le_trans HX.out.2 BV.out.size)))
  have hi2 := (b2.block _ (heap_lt HI.out)).trans HI.out
  have y0 : w2.cell? ⟨w.heap.size, 0, none⟩ = some (.int .i64 5) := by rw [cell_of_row _ _ _ _ _ _ hi2]; rfl
  have y2 : w2.cell? ⟨w.heap.size, 2, none⟩ = some (.int .u8 x.fn) := by rw [cell_of_row _ _ _ _ _ _ hi2]; rfl
  clear b2 hi2 p0 p1 p2 p3 q1
  go_wp2
  exact bodyPost_ret (v := .tuple #[.slice none 0 0, .bool false]) (R := stR st x w B) (by simp [results, Tryz.results43, go_sem]) rfl (stR_none HS.out B2.out _)
theorem step5_vb6 (x : It) (A : Option Addr) (c : Nat) (w : World) (B : Nat) (st : List Pt) (g m c0 : Nat) (p : Pt) (hB : B ≤ w.heap.size) (hg : g < w.heap.size) (hm0 : 0 ≤ m) (hm : m ≤ 1000) (hc0 : m + 1 ≤ c0) (hh : x.how = 6) (h0 : x.ns.length = 0) (h : x.nm = []) (hv : verbW x.fn true = [])
    (p0 : w.cell? ⟨g, m * 4, none⟩ = some (.string (bs p.s))) (p1 : w.cell? ⟨g, m * 4 + 1, none⟩ = some (.bool p.pl)) (p2 : w.cell? ⟨g, m * 4 + 2, none⟩ = some (.int .i64 p.tk)) (p3 : w.cell? ⟨g, m * 4 + 3, none⟩ = some (.int .i64 p.ne)) :
    Calls Tryz.prog 43 #[.slice (some ⟨g, 0, none⟩) (m + 1) c0, itX x A c] w (stR st x w B) := by
  have HS := Lib.hid (step_no (x := x) (st := st) (by omega) (by omega) (ok5_vb (by rw [hh]; exact hv)))
  have hb : Below B w (w.alloc (.cells #[.int .i64 x.how, .int .i64 x.pl, .int .u8 x.fn, .string (bs x.nm), .slice A x.ns.length c] 37)) := (Below.refl _ _).alloc hB _
  have hb0 : Below w.heap.size w (w.alloc (.cells #[.int .i64 x.how, .int .i64 x.pl, .int .u8 x.fn, .string (bs x.nm), .slice A x.ns.length c] 37)) := (Below.refl _ _).alloc (Nat.le_refl _) _
  unfold itX itW
  rw [hh, h0, h] at hb hb0 ⊢
  have hvb := fun W => verb5_any x.fn true W
  rw [hv] at hvb
  have HV := Lib.hid hvb
  have hbn : ((bs []).toList == []) = true := cmpYes rfl
  have hbm : ((bs []).toList != []) = false := by rw [bne, hbn]; rfl
  have q1 := idxPt g (m + 1) c0 m (by omega)
  have HB := Lib.hid hb
  have hgne : ¬ g = w.heap.size := by omega
  have HX := Lib.hid (And.intro hh hB)
  clear hB hh hb hb0 h0 h hvb hv
  go_enter Tryz.func43, Tryz.ntmps43
  go_wp2_with fail
  obtain ⟨V, hV⟩ : ∃ V, V = (w.alloc (.cells #[.int .i64 6, .int .i64 x.pl, .int .u8 x.fn, .string (bs []), .slice A 0 c] 37)).alloc (.cells #[.string (bs p.s), .bool p.pl, .int .i64 p.tk, .int .i64 p.ne] 92) := ⟨_, rfl⟩
  have hbv : Below B w V := by rw [hV]; exact HB.out.alloc (Nat.le_trans HX.out.2 (by simp)) _
  have hi : V.heap[w.heap.size]? = some (.cells #[.int .i64 6, .int .i64 x.pl, .int .u8 x.fn, .string (bs []), .slice A 0 c] 37 (0, 0)) := by rw [hV]; exact box1 w _ _
  have BV := Lib.hid hbv
  have HI := Lib.hid hi
  have HVV := Lib.hid hV
  clear hV hbv hi
  rw [← HVV.out]
  refine (HV.out _).mono ?_
  rintro e w2 ⟨rfl, b2⟩
  have B2 := Lib.hid (BV.out.trans (b2.mono (Nat.le_trans HX.out.2 BV.out.size)))
  have hi2 := (b2.block _ (heap_lt HI.out)).trans HI.out
  have y0 : w2.cell? ⟨w.heap.size, 0, none⟩ = some (.int .i64 6) := by rw [cell_of_row _ _ _ _ _ _ hi2]; rfl
  have y2 : w2.cell? ⟨w.heap.size, 2, none⟩ = some (.int .u8 x.fn) := by rw [cell_of_row _ _ _ _ _ _ hi2]; rfl
  clear b2 hi2 p0 p1 p2 p3 q1
  go_wp2
  exact bodyPost_ret (v := .tuple #[.slice none 0 0, .bool false]) (R := stR st x w B) (by simp [results, Tryz.results43, go_sem]) rfl (stR_none HS.out B2.out _)
theorem step5_vb7 (x : It) (A : Option Addr) (c : Nat) (w : World) (B : Nat) (st : List Pt) (g m c0 : Nat) (p : Pt) (hB : B ≤ w.heap.size) (hg : g < w.heap.size) (hm0 : 1 ≤ m) (hm : m ≤ 1000) (hc0 : m + 1 ≤ c0) (hh : x.how = 7) (h0 : x.ns.length = 0) (h : x.nm = []) (hv : verbW x.fn true = [])
    (p0 : w.cell? ⟨g, m * 4, none⟩ = some (.string (bs p.s))) (p1 : w.cell? ⟨g, m * 4 + 1, none⟩ = some (.bool p.pl)) (p2 : w.cell? ⟨g, m * 4 + 2, none⟩ = some (.int .i64 p.tk)) (p3 : w.cell? ⟨g, m * 4 + 3, none⟩ = some (.int .i64 p.ne)) :
    Calls Tryz.prog 43 #[.slice (some ⟨g, 0, none⟩) (m + 1) c0, itX x A c] w (stR st x w B) := by
  have HS := Lib.hid (step_no (x := x) (st := st) (by omega) (by omega) (ok5_vb (by rw [hh]; exact hv)))
  have hb : Below B w (w.alloc (.cells #[.int .i64 x.how, .int .i64 x.pl, .int .u8 x.fn, .string (bs x.nm), .slice A x.ns.length c] 37)) := (Below.refl _ _).alloc hB _
  have hb0 : Below w.heap.size w (w.alloc (.cells #[.int .i64 x.how, .int .i64 x.pl, .int .u8 x.fn, .string (bs x.nm), .slice A x.ns.length c] 37)) := (Below.refl _ _).alloc (Nat.le_refl _) _
  unfold itX itW
  rw [hh, h0, h] at hb hb0 ⊢
  have hvb := fun W => verb5_any x.fn true W
  rw [hv] at hvb
  have HV := Lib.hid hvb
  have hbn : ((bs []).toList == []) = true := cmpYes rfl
  have hbm : ((bs []).toList != []) = false := by rw [bne, hbn]; rfl
  have q1 := idxPt g (m + 1) c0 m (by omega)
  have HB := Lib.hid hb
  have hgne : ¬ g = w.heap.size := by omega
  have HX := Lib.hid (And.intro hh hB)
  clear hB hh hb hb0 h0 h hvb hv
  go_enter Tryz.func43, Tryz.ntmps43
  go_wp2_with fail
  obtain ⟨V, hV⟩ : ∃ V, V = (w.alloc (.cells #[.int .i64 7, .int .i64 x.pl, .int .u8 x.fn, .string (bs []), .slice A 0 c] 37)).alloc (.cells #[.string (bs p.s), .bool p.pl, .int .i64 p.tk, .int .i64 p.ne] 92) := ⟨_, rfl⟩
  have hbv : Below B w V := by rw [hV]; exact HB.out.alloc (Nat.le_trans HX.out.2 (by simp)) _
  have hi : V.heap[w.heap.size]? = some (.cells #[.int .i64 7, .int .i64 x.pl, .int .u8 x.fn, .string (bs []), .slice A 0 c] 37 (0, 0)) := by rw [hV]; exact box1 w _ _
  have BV := Lib.hid hbv
  have HI := Lib.hid hi
  have HVV := Lib.hid hV
  clear hV hbv hi
  rw [← HVV.out]
  refine (HV.out _).mono ?_
  rintro e w2 ⟨rfl, b2⟩
  have B2 := Lib.hid (BV.out.trans (b2.mono (Nat.le_trans HX.out.2 BV.out.size)))
  have hi2 := (b2.block _ (heap_lt HI.out)).trans HI.out
  have y0 : w2.cell? ⟨w.heap.size, 0, none⟩ = some (.int .i64 7) := by rw [cell_of_row _ _ _ _ _ _ hi2]; rfl
  have y2 : w2.cell? ⟨w.heap.size, 2, none⟩ = some (.int .u8 x.fn) := by rw [cell_of_row _ _ _ _ _ _ hi2]; rfl
  clear b2 hi2 p0 p1 p2 p3 q1
  go_wp2
  exact bodyPost_ret (v := .tuple #[.slice none 0 0, .bool false]) (R := stR st x w B) (by simp [results, Tryz.results43, go_sem]) rfl (stR_none HS.out B2.out _)
theorem rtk_any (f : Int) (w : World) : Calls Tryz.prog 64 #[.int .u8 f, .bool true] w fun e w' => e = .returned (.bool (tk2 f)) ∧ w' = w := by
  by_cases h1 : 1 ≤ f
  · by_cases h2 : f ≤ 17
    · have : f = 1 ∨ f = 2 ∨ f = 3 ∨ f = 4 ∨ f = 5 ∨ f = 6 ∨ f = 7 ∨ f = 8 ∨ f = 9 ∨ f = 10 ∨ f = 11 ∨ f = 12 ∨ f = 13 ∨ f = 14 ∨ f = 15 ∨ f = 16 ∨ f = 17 := by omega
      rcases this with rfl | rfl | rfl | rfl | rfl | rfl | rfl | rfl | rfl | rfl | rfl | rfl | rfl | rfl | rfl | rfl | rfl
      · exact rtk_1_true w
      · exact rtk_2_true w
      · exact rtk_3_true w
      · exact rtk_4_true w
      · exact rtk_5_true w
      · exact rtk_6_true w
      · exact rtk_7_true w
      · exact rtk_8_true w
      · exact rtk_9_true w
      · exact rtk_10_true w
      · exact rtk_11_true w
      · exact rtk_12_true w
      · exact rtk_13_true w
      · exact rtk_14_true w
      · exact rtk_15_true w
      · exact rtk_16_true w
      · exact rtk_17_true w
    · have HT := Lib.hid (show tk2 f = false by unfold tk2; rw [decide_eq_false h2]; simp)
      go_enter Tryz.func64, Tryz.ntmps64
      go_wp2
      go_ret
      exact ⟨by rw [HT.out]; rfl, rfl⟩
  · have HT := Lib.hid (show tk2 f = false by unfold tk2; rw [decide_eq_false h1]; rfl)
    go_enter Tryz.func64, Tryz.ntmps64
    go_wp2
    go_ret
    exact ⟨by rw [HT.out]; rfl, rfl⟩
theorem step5_tk5 (x : It) (A : Option Addr) (c : Nat) (w : World) (B : Nat) (st : List Pt) (g m c0 : Nat) (p : Pt) (hB : B ≤ w.heap.size) (hg : g < w.heap.size) (hm0 : 0 ≤ m) (hm : m ≤ 1000) (hc0 : m + 1 ≤ c0) (hh : x.how = 5) (h0 : x.ns.length = 0) (h : x.nm = []) (hv : verbW x.fn true ≠ []) (ht : tk2 x.fn = false)
    (p0 : w.cell? ⟨g, m * 4, none⟩ = some (.string (bs p.s))) (p1 : w.cell? ⟨g, m * 4 + 1, none⟩ = some (.bool p.pl)) (p2 : w.cell? ⟨g, m * 4 + 2, none⟩ = some (.int .i64 p.tk)) (p3 : w.cell? ⟨g, m * 4 + 3, none⟩ = some (.int .i64 p.ne)) :
    Calls Tryz.prog 43 #[.slice (some ⟨g, 0, none⟩) (m + 1) c0, itX x A c] w (stR st x w B) := by
  have HS := Lib.hid (step_no (x := x) (st := st) (by omega) (by omega) (ok5_tk (by omega) (by omega) ht))
  have hb : Below B w (w.alloc (.cells #[.int .i64 x.how, .int .i64 x.pl, .int .u8 x.fn, .string (bs x.nm), .slice A x.ns.length c] 37)) := (Below.refl _ _).alloc hB _
  have hb0 : Below w.heap.size w (w.alloc (.cells #[.int .i64 x.how, .int .i64 x.pl, .int .u8 x.fn, .string (bs x.nm), .slice A x.ns.length c] 37)) := (Below.refl _ _).alloc (Nat.le_refl _) _
  unfold itX itW
  rw [hh, h0, h] at hb hb0 ⊢
  have hvb := fun W => verb5_any x.fn true W
  obtain ⟨u, hu⟩ : ∃ u, u = verbW x.fn true := ⟨_, rfl⟩
  rw [← hu] at hvb hv
  have hun : ((bs u).toList == []) = false := cmpNo hv
  have HRT := Lib.hid (show ∀ W : World, Calls Tryz.prog 64 #[.int .u8 x.fn, .bool true] W fun e w' => e = .returned (.bool false) ∧ w' = W from fun W => by have := rtk_any x.fn W; rw [ht] at this; exact this)
  have HV := Lib.hid hvb
  have hbn : ((bs []).toList == []) = true := cmpYes rfl
  have hbm : ((bs []).toList != []) = false := by rw [bne, hbn]; rfl
  have q1 := idxPt g (m + 1) c0 m (by omega)
  have HB := Lib.hid hb
  have hgne : ¬ g = w.heap.size := by omega
  have HX := Lib.hid (And.intro hh hB)
  clear hB hh hb hb0 h0 h hvb hv ht hu
  go_enter Tryz.func43, Tryz.ntmps43
  go_wp2_with fail
  obtain ⟨V, hV⟩ : ∃ V, V = (w.alloc (.cells #[.int .i64 5, .int .i64 x.pl, .int .u8 x.fn, .string (bs []), .slice A 0 c] 37)).alloc (.cells #[.string (bs p.s), .bool p.pl, .int .i64 p.tk, .int .i64 p.ne] 92) := ⟨_, rfl⟩
  have hbv : Below B w V := by rw [hV]; exact HB.out.alloc (Nat.le_trans HX.out.2 (by simp)) _
  have hi : V.heap[w.heap.size]? = some (.cells #[.int .i64 5, .int .i64 x.pl, .int .u8 x.fn, .string (bs []), .slice A 0 c] 37 (0, 0)) := by rw [hV]; exact box1 w _ _
  have BV := Lib.hid hbv
  have HI := Lib.hid hi
  have HVV := Lib.hid hV
  clear hV hbv hi
  rw [← HVV.out]
  refine (HV.out _).mono ?_
  rintro e w2 ⟨rfl, b2⟩
  have B2 := Lib.hid (BV.out.trans (b2.mono (Nat.le_trans HX.out.2 BV.out.size)))
  have hi2 := (b2.block _ (heap_lt HI.out)).trans HI.out
  have y0 : w2.cell? ⟨w.heap.size, 0, none⟩ = some (.int .i64 5) := by rw [cell_of_row _ _ _ _ _ _ hi2]; rfl
  have y2 : w2.cell? ⟨w.heap.size, 2, none⟩ = some (.int .u8 x.fn) := by rw [cell_of_row _ _ _ _ _ _ hi2]; rfl
  clear b2 hi2 p0 p1 p2 p3 q1
  go_wp2_with fail
  refine (HRT.out _).mono ?_
  rintro e w3 ⟨rfl, rfl⟩
  go_wp2
  exact bodyPost_ret (v := .tuple #[.slice none 0 0, .bool false]) (R := stR st x w B) (by simp [results, Tryz.results43, go_sem]) rfl (stR_none HS.out B2.out _)
theorem step5_tk6 (x : It) (A : Option Addr) (c : Nat) (w : World) (B : Nat) (st : List Pt) (g m c0 : Nat) (p : Pt) (hB : B ≤ w.heap.size) (hg : g < w.heap.size) (hm0 : 0 ≤ m) (hm : m ≤ 1000) (hc0 : m + 1 ≤ c0) (hh : x.how = 6) (h0 : x.ns.length = 0) (h : x.nm = []) (hv : verbW x.fn true ≠ []) (ht : tk2 x.fn = false)
    (p0 : w.cell? ⟨g, m * 4, none⟩ = some (.string (bs p.s))) (p1 : w.cell? ⟨g, m * 4 + 1, none⟩ = some (.bool p.pl)) (p2 : w.cell? ⟨g, m * 4 + 2, none⟩ = some (.int .i64 p.tk)) (p3 : w.cell? ⟨g, m * 4 + 3, none⟩ = some (.int .i64 p.ne)) :
    Calls Tryz.prog 43 #[.slice (some ⟨g, 0, none⟩) (m + 1) c0, itX x A c] w (stR st x w B) := by
  have HS := Lib.hid (step_no (x := x) (st := st) (by omega) (by omega) (ok5_tk (by omega) (by omega) ht))
  have hb : Below B w (w.alloc (.cells #[.int .i64 x.how, .int .i64 x.pl, .int .u8 x.fn, .string (bs x.nm), .slice A x.ns.length c] 37)) := (Below.refl _ _).alloc hB _
  have hb0 : Below w.heap.size w (w.alloc (.cells #[.int .i64 x.how, .int .i64 x.pl, .int .u8 x.fn, .string (bs x.nm), .slice A x.ns.length c] 37)) := (Below.refl _ _).alloc (Nat.le_refl _) _
  unfold itX itW
  rw [hh, h0, h] at hb hb0 ⊢
  have hvb := fun W => verb5_any x.fn true W
  obtain ⟨u, hu⟩ : ∃ u, u = verbW x.fn true := ⟨_, rfl⟩
  rw [← hu] at hvb hv
  have hun : ((bs u).toList == []) = false := cmpNo hv
  have HRT := Lib.hid (show ∀ W : World, Calls Tryz.prog 64 #[.int .u8 x.fn, .bool true] W fun e w' => e = .returned (.bool false) ∧ w' = W from fun W => by have := rtk_any x.fn W; rw [ht] at this; exact this)
  have HV := Lib.hid hvb
  have hbn : ((bs []).toList == []) = true := cmpYes rfl
  have hbm : ((bs []).toList != []) = false := by rw [bne, hbn]; rfl
  have q1 := idxPt g (m + 1) c0 m (by omega)
  have HB := Lib.hid hb
  have hgne : ¬ g = w.heap.size := by omega
  have HX := Lib.hid (And.intro hh hB)
  clear hB hh hb hb0 h0 h hvb hv ht hu
  go_enter Tryz.func43, Tryz.ntmps43
  go_wp2_with fail
  obtain ⟨V, hV⟩ : ∃ V, V = (w.alloc (.cells #[.int .i64 6, .int .i64 x.pl, .int .u8 x.fn, .string (bs []), .slice A 0 c] 37)).alloc (.cells #[.string (bs p.s), .bool p.pl, .int .i64 p.tk, .int .i64 p.ne] 92) := ⟨_, rfl⟩
  have hbv : Below B w V := by rw [hV]; exact HB.out.alloc (Nat.le_trans HX.out.2 (by simp)) _
  have hi : V.heap[w.heap.size]? = some (.cells #[.int .i64 6, .int .i64 x.pl, .int .u8 x.fn, .string (bs []), .slice A 0 c] 37 (0, 0)) := by rw [hV]; exact box1 w _ _
  have BV := Lib.hid hbv
  have HI := Lib.hid hi
  have HVV := Lib.hid hV
  clear hV hbv hi
  rw [← HVV.out]
  refine (HV.out _).mono ?_
  rintro e w2 ⟨rfl, b2⟩
  have B2 := Lib.hid (BV.out.trans (b2.mono (Nat.le_trans HX.out.2 BV.out.size)))
  have hi2 := (b2.block _ (heap_lt HI.out)).trans HI.out
  have y0 : w2.cell? ⟨w.heap.size, 0, none⟩ = some (.int .i64 6) := by rw [cell_of_row _ _ _ _ _ _ hi2]; rfl
  have y2 : w2.cell? ⟨w.heap.size, 2, none⟩ = some (.int .u8 x.fn) := by rw [cell_of_row _ _ _ _ _ _ hi2]; rfl
  clear b2 hi2 p0 p1 p2 p3 q1
  go_wp2_with fail
  refine (HRT.out _).mono ?_
  rintro e w3 ⟨rfl, rfl⟩
  go_wp2
  exact bodyPost_ret (v := .tuple #[.slice none 0 0, .bool false]) (R := stR st x w B) (by simp [results, Tryz.results43, go_sem]) rfl (stR_none HS.out B2.out _)
theorem step5_tk7 (x : It) (A : Option Addr) (c : Nat) (w : World) (B : Nat) (st : List Pt) (g m c0 : Nat) (p : Pt) (hB : B ≤ w.heap.size) (hg : g < w.heap.size) (hm0 : 1 ≤ m) (hm : m ≤ 1000) (hc0 : m + 1 ≤ c0) (hh : x.how = 7) (h0 : x.ns.length = 0) (h : x.nm = []) (hv : verbW x.fn true ≠ []) (ht : tk2 x.fn = false)
    (p0 : w.cell? ⟨g, m * 4, none⟩ = some (.string (bs p.s))) (p1 : w.cell? ⟨g, m * 4 + 1, none⟩ = some (.bool p.pl)) (p2 : w.cell? ⟨g, m * 4 + 2, none⟩ = some (.int .i64 p.tk)) (p3 : w.cell? ⟨g, m * 4 + 3, none⟩ = some (.int .i64 p.ne)) :
    Calls Tryz.prog 43 #[.slice (some ⟨g, 0, none⟩) (m + 1) c0, itX x A c] w (stR st x w B) := by
  have HS := Lib.hid (step_no (x := x) (st := st) (by omega) (by omega) (ok5_tk (by omega) (by omega) ht))
  have hb : Below B w (w.alloc (.cells #[.int .i64 x.how, .int .i64 x.pl, .int .u8 x.fn, .string (bs x.nm), .slice A x.ns.length c] 37)) := (Below.refl _ _).alloc hB _
  have hb0 : Below w.heap.size w (w.alloc (.cells #[.int .i64 x.how, .int .i64 x.pl, .int .u8 x.fn, .string (bs x.nm), .slice A x.ns.length c] 37)) := (Below.refl _ _).alloc (Nat.le_refl _) _
  unfold itX itW
  rw [hh, h0, h] at hb hb0 ⊢
  have hvb := fun W => verb5_any x.fn true W
  obtain ⟨u, hu⟩ : ∃ u, u = verbW x.fn true := ⟨_, rfl⟩
  rw [← hu] at hvb hv
  have hun : ((bs u).toList == []) = false := cmpNo hv
  have HRT := Lib.hid (show ∀ W : World, Calls Tryz.prog 64 #[.int .u8 x.fn, .bool true] W fun e w' => e = .returned (.bool false) ∧ w' = W from fun W => by have := rtk_any x.fn W; rw [ht] at this; exact this)
  have HV := Lib.hid hvb
  have hbn : ((bs []).toList == []) = true := cmpYes rfl
  have hbm : ((bs []).toList != []) = false := by rw [bne, hbn]; rfl
  have q1 := idxPt g (m + 1) c0 m (by omega)
  have HB := Lib.hid hb
  have hgne : ¬ g = w.heap.size := by omega
  have HX := Lib.hid (And.intro hh hB)
  clear hB hh hb hb0 h0 h hvb hv ht hu
  go_enter Tryz.func43, Tryz.ntmps43
  go_wp2_with fail
  obtain ⟨V, hV⟩ : ∃ V, V = (w.alloc (.cells #[.int .i64 7, .int .i64 x.pl, .int .u8 x.fn, .string (bs []), .slice A 0 c] 37)).alloc (.cells #[.string (bs p.s), .bool p.pl, .int .i64 p.tk, .int .i64 p.ne] 92) := ⟨_, rfl⟩
  have hbv : Below B w V := by rw [hV]; exact HB.out.alloc (Nat.le_trans HX.out.2 (by simp)) _
  have hi : V.heap[w.heap.size]? = some (.cells #[.int .i64 7, .int .i64 x.pl, .int .u8 x.fn, .string (bs []), .slice A 0 c] 37 (0, 0)) := by rw [hV]; exact box1 w _ _
  have BV := Lib.hid hbv
  have HI := Lib.hid hi
  have HVV := Lib.hid hV
  clear hV hbv hi
  rw [← HVV.out]
  refine (HV.out _).mono ?_
  rintro e w2 ⟨rfl, b2⟩
  have B2 := Lib.hid (BV.out.trans (b2.mono (Nat.le_trans HX.out.2 BV.out.size)))
  have hi2 := (b2.block _ (heap_lt HI.out)).trans HI.out
  have y0 : w2.cell? ⟨w.heap.size, 0, none⟩ = some (.int .i64 7) := by rw [cell_of_row _ _ _ _ _ _ hi2]; rfl
  have y2 : w2.cell? ⟨w.heap.size, 2, none⟩ = some (.int .u8 x.fn) := by rw [cell_of_row _ _ _ _ _ _ hi2]; rfl
  clear b2 hi2 p0 p1 p2 p3 q1
  go_wp2_with fail
  refine (HRT.out _).mono ?_
  rintro e w3 ⟨rfl, rfl⟩
  go_wp2
  exact bodyPost_ret (v := .tuple #[.slice none 0 0, .bool false]) (R := stR st x w B) (by simp [results, Tryz.results43, go_sem]) rfl (stR_none HS.out B2.out _)
end Go.Proofs.YtbapgdhcbfpdoaaGreatDoor
