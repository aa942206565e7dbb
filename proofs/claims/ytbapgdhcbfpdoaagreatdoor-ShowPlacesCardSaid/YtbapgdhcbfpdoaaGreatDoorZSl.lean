/- The code's write, by the item's way to work; its callees' contracts are given. Written by gen_shs.py. -/
import Derived.Test.YtbapgdhcbfpdoaaGreatDoorZSj
import Derived.Test.YtbapgdhcbfpdoaaGreatDoorZSk
namespace Go.Proofs.YtbapgdhcbfpdoaaGreatDoor
open Go.RowKit
set_option linter.unusedVariables false
set_option maxRecDepth 100000
abbrev itC (how pl fn : Int) (nm : List UInt8) (A : Option Addr) (n c : Nat) : Obj := .cells #[.int .i64 how, .int .i64 pl, .int .u8 fn, .string (bs nm), .slice A n c] 37
theorem beq0 {x : Int} (h : x ≠ 0) : (x == 0) = false := by rw [beq_eq_false_iff_ne]; exact h
set_option maxHeartbeats 1600000 in
theorem w1_nm (w : World) (R : Nat) (hR : R ≤ w.heap.size) (pl fn : Int) (nm : List UInt8) (A : Option Addr) (n c : Nat) (hnm : nm ≠ []) :
    Calls Tryz.prog 61 #[.pointer (some ⟨R, 0, none⟩), itW 1 pl fn nm A n c] w fun e w' => e = .returned (.bool false) ∧ Below R w w' := by
  have hbn : ((bs nm).toList == []) = false := cmpNo hnm
  clear hnm
  unfold itW
  go_enter Tryz.func61, Tryz.ntmps61
  go_wp2
  go_ret
  exact ⟨rfl, ((Below.refl _ _).alloc (Nat.le_refl _) _).mono hR⟩
set_option maxHeartbeats 1600000 in
theorem w1_fn (w : World) (R : Nat) (hR : R ≤ w.heap.size) (pl fn : Int) (nm : List UInt8) (A : Option Addr) (n c : Nat) (hf : fn ≠ 0) :
    Calls Tryz.prog 61 #[.pointer (some ⟨R, 0, none⟩), itW 1 pl fn [] A n c] w fun e w' => e = .returned (.bool false) ∧ Below R w w' := by
  have hb0 : ((bs []).toList == []) = true := cmpYes rfl
  have hf1 := beq0 hf
  clear hf
  unfold itW
  go_enter Tryz.func61, Tryz.ntmps61
  go_wp2
  go_ret
  exact ⟨rfl, ((Below.refl _ _).alloc (Nat.le_refl _) _).mono hR⟩
set_option maxHeartbeats 1600000 in
theorem w1_ok (w : World) (R : Nat) (hR : R ≤ w.heap.size) (pl fn : Int) (nm : List UInt8) (A : Option Addr) (n c : Nat) (D : Bool) (P : World → Prop) (hC : Calls Tryz.prog 80 #[.pointer (some ⟨R, 0, none⟩), .slice A n c] (w.alloc (itC 1 pl 0 [] A n c)) fun e w' => e = .returned (.bool D) ∧ P w') :
    Calls Tryz.prog 61 #[.pointer (some ⟨R, 0, none⟩), itW 1 pl 0 [] A n c] w fun e w' => e = .returned (.bool D) ∧ P w' := by
  have hb0 : ((bs []).toList == []) = true := cmpYes rfl
  have HC := Lib.hid hC
  clear hC
  unfold itW
  go_enter Tryz.func61, Tryz.ntmps61
  go_wp2_with fail
  refine HC.out.mono ?_
  rintro e w2 ⟨rfl, h2⟩
  have H2 := Lib.hid h2
  clear h2
  go_wp2
  go_ret
  exact ⟨rfl, H2.out⟩
set_option maxHeartbeats 1600000 in
theorem w2_ns (w : World) (R : Nat) (hR : R ≤ w.heap.size) (pl fn : Int) (nm : List UInt8) (A : Option Addr) (n c : Nat) (hn : n ≠ 0) :
    Calls Tryz.prog 61 #[.pointer (some ⟨R, 0, none⟩), itW 2 pl fn nm A n c] w fun e w' => e = .returned (.bool false) ∧ Below R w w' := by
  have hz : ((n : Int) == 0) = false := beq0 (by omega)
  clear hn
  unfold itW
  go_enter Tryz.func61, Tryz.ntmps61
  go_wp2
  go_ret
  exact ⟨rfl, ((Below.refl _ _).alloc (Nat.le_refl _) _).mono hR⟩
set_option maxHeartbeats 1600000 in
theorem w2_fn (w : World) (R : Nat) (hR : R ≤ w.heap.size) (pl fn : Int) (nm : List UInt8) (A : Option Addr) (n c : Nat) (hf : fn ≠ 0) :
    Calls Tryz.prog 61 #[.pointer (some ⟨R, 0, none⟩), itW 2 pl fn nm A 0 c] w fun e w' => e = .returned (.bool false) ∧ Below R w w' := by
  have hf1 := beq0 hf
  clear hf
  unfold itW
  go_enter Tryz.func61, Tryz.ntmps61
  go_wp2
  go_ret
  exact ⟨rfl, ((Below.refl _ _).alloc (Nat.le_refl _) _).mono hR⟩
set_option maxHeartbeats 1600000 in
theorem w2_ok (w : World) (R : Nat) (hR : R ≤ w.heap.size) (pl fn : Int) (nm : List UInt8) (A : Option Addr) (n c : Nat) (D : Bool) (P : World → Prop) (hC : Calls Tryz.prog 81 #[.pointer (some ⟨R, 0, none⟩), .string (bs nm)] (w.alloc (itC 2 pl 0 nm A 0 c)) fun e w' => e = .returned (.bool D) ∧ P w') :
    Calls Tryz.prog 61 #[.pointer (some ⟨R, 0, none⟩), itW 2 pl 0 nm A 0 c] w fun e w' => e = .returned (.bool D) ∧ P w' := by
  have HC := Lib.hid hC
  clear hC
  unfold itW
  go_enter Tryz.func61, Tryz.ntmps61
  go_wp2_with fail
  refine HC.out.mono ?_
  rintro e w2 ⟨rfl, h2⟩
  have H2 := Lib.hid h2
  clear h2
  go_wp2
  go_ret
  exact ⟨rfl, H2.out⟩
set_option maxHeartbeats 1600000 in
theorem w3_nm (w : World) (R : Nat) (hR : R ≤ w.heap.size) (pl fn : Int) (nm : List UInt8) (A : Option Addr) (n c : Nat) (hnm : nm ≠ []) :
    Calls Tryz.prog 61 #[.pointer (some ⟨R, 0, none⟩), itW 3 pl fn nm A n c] w fun e w' => e = .returned (.bool false) ∧ Below R w w' := by
  have hbn : ((bs nm).toList == []) = false := cmpNo hnm
  clear hnm
  unfold itW
  go_enter Tryz.func61, Tryz.ntmps61
  go_wp2
  go_ret
  exact ⟨rfl, ((Below.refl _ _).alloc (Nat.le_refl _) _).mono hR⟩
set_option maxHeartbeats 1600000 in
theorem w3_ns (w : World) (R : Nat) (hR : R ≤ w.heap.size) (pl fn : Int) (nm : List UInt8) (A : Option Addr) (n c : Nat) (hn : n ≠ 0) :
    Calls Tryz.prog 61 #[.pointer (some ⟨R, 0, none⟩), itW 3 pl fn [] A n c] w fun e w' => e = .returned (.bool false) ∧ Below R w w' := by
  have hb0 : ((bs []).toList == []) = true := cmpYes rfl
  have hz : ((n : Int) == 0) = false := beq0 (by omega)
  clear hn
  unfold itW
  go_enter Tryz.func61, Tryz.ntmps61
  go_wp2
  go_ret
  exact ⟨rfl, ((Below.refl _ _).alloc (Nat.le_refl _) _).mono hR⟩
set_option maxHeartbeats 1600000 in
theorem w3_ok (w : World) (R : Nat) (hR : R ≤ w.heap.size) (pl fn : Int) (nm : List UInt8) (A : Option Addr) (n c : Nat) (D : Bool) (P : World → Prop) (hC : Calls Tryz.prog 82 #[.pointer (some ⟨R, 0, none⟩), itW 3 pl fn [] A 0 c] (w.alloc (itC 3 pl fn [] A 0 c)) fun e w' => e = .returned (.bool D) ∧ P w') :
    Calls Tryz.prog 61 #[.pointer (some ⟨R, 0, none⟩), itW 3 pl fn [] A 0 c] w fun e w' => e = .returned (.bool D) ∧ P w' := by
  have hb0 : ((bs []).toList == []) = true := cmpYes rfl
  unfold itW at hC
  have HC := Lib.hid hC
  clear hC
  unfold itW
  go_enter Tryz.func61, Tryz.ntmps61
  go_wp2_with fail
  refine HC.out.mono ?_
  rintro e w2 ⟨rfl, h2⟩
  have H2 := Lib.hid h2
  clear h2
  go_wp2
  go_ret
  exact ⟨rfl, H2.out⟩
set_option maxHeartbeats 1600000 in
theorem w5_nm (w : World) (R : Nat) (hR : R ≤ w.heap.size) (pl fn : Int) (nm : List UInt8) (A : Option Addr) (n c : Nat) (hnm : nm ≠ []) :
    Calls Tryz.prog 61 #[.pointer (some ⟨R, 0, none⟩), itW 5 pl fn nm A n c] w fun e w' => e = .returned (.bool false) ∧ Below R w w' := by
  have hbn : ((bs nm).toList == []) = false := cmpNo hnm
  clear hnm
  unfold itW
  go_enter Tryz.func61, Tryz.ntmps61
  go_wp2
  go_ret
  exact ⟨rfl, ((Below.refl _ _).alloc (Nat.le_refl _) _).mono hR⟩
set_option maxHeartbeats 1600000 in
theorem w5_ns (w : World) (R : Nat) (hR : R ≤ w.heap.size) (pl fn : Int) (nm : List UInt8) (A : Option Addr) (n c : Nat) (hn : n ≠ 0) :
    Calls Tryz.prog 61 #[.pointer (some ⟨R, 0, none⟩), itW 5 pl fn [] A n c] w fun e w' => e = .returned (.bool false) ∧ Below R w w' := by
  have hb0 : ((bs []).toList == []) = true := cmpYes rfl
  have hz : ((n : Int) == 0) = false := beq0 (by omega)
  clear hn
  unfold itW
  go_enter Tryz.func61, Tryz.ntmps61
  go_wp2
  go_ret
  exact ⟨rfl, ((Below.refl _ _).alloc (Nat.le_refl _) _).mono hR⟩
set_option maxHeartbeats 1600000 in
theorem w5_ok (w : World) (R : Nat) (hR : R ≤ w.heap.size) (pl fn : Int) (nm : List UInt8) (A : Option Addr) (n c : Nat) (D : Bool) (P : World → Prop) (hC : Calls Tryz.prog 82 #[.pointer (some ⟨R, 0, none⟩), itW 5 pl fn [] A 0 c] (w.alloc (itC 5 pl fn [] A 0 c)) fun e w' => e = .returned (.bool D) ∧ P w') :
    Calls Tryz.prog 61 #[.pointer (some ⟨R, 0, none⟩), itW 5 pl fn [] A 0 c] w fun e w' => e = .returned (.bool D) ∧ P w' := by
  have hb0 : ((bs []).toList == []) = true := cmpYes rfl
  unfold itW at hC
  have HC := Lib.hid hC
  clear hC
  unfold itW
  go_enter Tryz.func61, Tryz.ntmps61
  go_wp2_with fail
  refine HC.out.mono ?_
  rintro e w2 ⟨rfl, h2⟩
  have H2 := Lib.hid h2
  clear h2
  go_wp2
  go_ret
  exact ⟨rfl, H2.out⟩
set_option maxHeartbeats 1600000 in
theorem w6_nm (w : World) (R : Nat) (hR : R ≤ w.heap.size) (pl fn : Int) (nm : List UInt8) (A : Option Addr) (n c : Nat) (hnm : nm ≠ []) :
    Calls Tryz.prog 61 #[.pointer (some ⟨R, 0, none⟩), itW 6 pl fn nm A n c] w fun e w' => e = .returned (.bool false) ∧ Below R w w' := by
  have hbn : ((bs nm).toList == []) = false := cmpNo hnm
  clear hnm
  unfold itW
  go_enter Tryz.func61, Tryz.ntmps61
  go_wp2
  go_ret
  exact ⟨rfl, ((Below.refl _ _).alloc (Nat.le_refl _) _).mono hR⟩
set_option maxHeartbeats 1600000 in
theorem w6_ns (w : World) (R : Nat) (hR : R ≤ w.heap.size) (pl fn : Int) (nm : List UInt8) (A : Option Addr) (n c : Nat) (hn : n ≠ 0) :
    Calls Tryz.prog 61 #[.pointer (some ⟨R, 0, none⟩), itW 6 pl fn [] A n c] w fun e w' => e = .returned (.bool false) ∧ Below R w w' := by
  have hb0 : ((bs []).toList == []) = true := cmpYes rfl
  have hz : ((n : Int) == 0) = false := beq0 (by omega)
  clear hn
  unfold itW
  go_enter Tryz.func61, Tryz.ntmps61
  go_wp2
  go_ret
  exact ⟨rfl, ((Below.refl _ _).alloc (Nat.le_refl _) _).mono hR⟩
set_option maxHeartbeats 1600000 in
theorem w6_ok (w : World) (R : Nat) (hR : R ≤ w.heap.size) (pl fn : Int) (nm : List UInt8) (A : Option Addr) (n c : Nat) (D : Bool) (P : World → Prop) (hC : Calls Tryz.prog 82 #[.pointer (some ⟨R, 0, none⟩), itW 6 pl fn [] A 0 c] (w.alloc (itC 6 pl fn [] A 0 c)) fun e w' => e = .returned (.bool D) ∧ P w') :
    Calls Tryz.prog 61 #[.pointer (some ⟨R, 0, none⟩), itW 6 pl fn [] A 0 c] w fun e w' => e = .returned (.bool D) ∧ P w' := by
  have hb0 : ((bs []).toList == []) = true := cmpYes rfl
  unfold itW at hC
  have HC := Lib.hid hC
  clear hC
  unfold itW
  go_enter Tryz.func61, Tryz.ntmps61
  go_wp2_with fail
  refine HC.out.mono ?_
  rintro e w2 ⟨rfl, h2⟩
  have H2 := Lib.hid h2
  clear h2
  go_wp2
  go_ret
  exact ⟨rfl, H2.out⟩
set_option maxHeartbeats 1600000 in
theorem w4_nm (w : World) (R : Nat) (hR : R ≤ w.heap.size) (pl fn : Int) (nm : List UInt8) (A : Option Addr) (n c : Nat) (hnm : nm ≠ []) :
    Calls Tryz.prog 61 #[.pointer (some ⟨R, 0, none⟩), itW 4 pl fn nm A n c] w fun e w' => e = .returned (.bool false) ∧ Below R w w' := by
  have hbn : ((bs nm).toList == []) = false := cmpNo hnm
  clear hnm
  unfold itW
  go_enter Tryz.func61, Tryz.ntmps61
  go_wp2
  go_ret
  exact ⟨rfl, ((Below.refl _ _).alloc (Nat.le_refl _) _).mono hR⟩
set_option maxHeartbeats 1600000 in
theorem w4_ns (w : World) (R : Nat) (hR : R ≤ w.heap.size) (pl fn : Int) (nm : List UInt8) (A : Option Addr) (n c : Nat) (hn : n ≠ 0) :
    Calls Tryz.prog 61 #[.pointer (some ⟨R, 0, none⟩), itW 4 pl fn [] A n c] w fun e w' => e = .returned (.bool false) ∧ Below R w w' := by
  have hb0 : ((bs []).toList == []) = true := cmpYes rfl
  have hz : ((n : Int) == 0) = false := beq0 (by omega)
  clear hn
  unfold itW
  go_enter Tryz.func61, Tryz.ntmps61
  go_wp2
  go_ret
  exact ⟨rfl, ((Below.refl _ _).alloc (Nat.le_refl _) _).mono hR⟩
set_option maxHeartbeats 1600000 in
theorem w4_ok (w : World) (R : Nat) (hR : R ≤ w.heap.size) (pl fn : Int) (nm : List UInt8) (A : Option Addr) (n c : Nat) (D : Bool) (P : World → Prop) (hC : Calls Tryz.prog 83 #[.pointer (some ⟨R, 0, none⟩), itW 4 pl fn [] A 0 c] (w.alloc (itC 4 pl fn [] A 0 c)) fun e w' => e = .returned (.bool D) ∧ P w') :
    Calls Tryz.prog 61 #[.pointer (some ⟨R, 0, none⟩), itW 4 pl fn [] A 0 c] w fun e w' => e = .returned (.bool D) ∧ P w' := by
  have hb0 : ((bs []).toList == []) = true := cmpYes rfl
  unfold itW at hC
  have HC := Lib.hid hC
  clear hC
  unfold itW
  go_enter Tryz.func61, Tryz.ntmps61
  go_wp2_with fail
  refine HC.out.mono ?_
  rintro e w2 ⟨rfl, h2⟩
  have H2 := Lib.hid h2
  clear h2
  go_wp2
  go_ret
  exact ⟨rfl, H2.out⟩
set_option maxHeartbeats 1600000 in
theorem w7_nm (w : World) (R : Nat) (hR : R ≤ w.heap.size) (pl fn : Int) (nm : List UInt8) (A : Option Addr) (n c : Nat) (hnm : nm ≠ []) :
    Calls Tryz.prog 61 #[.pointer (some ⟨R, 0, none⟩), itW 7 pl fn nm A n c] w fun e w' => e = .returned (.bool false) ∧ Below R w w' := by
  have hbn : ((bs nm).toList == []) = false := cmpNo hnm
  clear hnm
  unfold itW
  go_enter Tryz.func61, Tryz.ntmps61
  go_wp2
  go_ret
  exact ⟨rfl, ((Below.refl _ _).alloc (Nat.le_refl _) _).mono hR⟩
set_option maxHeartbeats 1600000 in
theorem w7_ns (w : World) (R : Nat) (hR : R ≤ w.heap.size) (pl fn : Int) (nm : List UInt8) (A : Option Addr) (n c : Nat) (hn : n ≠ 0) :
    Calls Tryz.prog 61 #[.pointer (some ⟨R, 0, none⟩), itW 7 pl fn [] A n c] w fun e w' => e = .returned (.bool false) ∧ Below R w w' := by
  have hb0 : ((bs []).toList == []) = true := cmpYes rfl
  have hz : ((n : Int) == 0) = false := beq0 (by omega)
  clear hn
  unfold itW
  go_enter Tryz.func61, Tryz.ntmps61
  go_wp2
  go_ret
  exact ⟨rfl, ((Below.refl _ _).alloc (Nat.le_refl _) _).mono hR⟩
set_option maxHeartbeats 1600000 in
theorem w7_ok (w : World) (R : Nat) (hR : R ≤ w.heap.size) (pl fn : Int) (nm : List UInt8) (A : Option Addr) (n c : Nat) (D : Bool) (P : World → Prop) (hC : Calls Tryz.prog 83 #[.pointer (some ⟨R, 0, none⟩), itW 7 pl fn [] A 0 c] (w.alloc (itC 7 pl fn [] A 0 c)) fun e w' => e = .returned (.bool D) ∧ P w') :
    Calls Tryz.prog 61 #[.pointer (some ⟨R, 0, none⟩), itW 7 pl fn [] A 0 c] w fun e w' => e = .returned (.bool D) ∧ P w' := by
  have hb0 : ((bs []).toList == []) = true := cmpYes rfl
  unfold itW at hC
  have HC := Lib.hid hC
  clear hC
  unfold itW
  go_enter Tryz.func61, Tryz.ntmps61
  go_wp2_with fail
  refine HC.out.mono ?_
  rintro e w2 ⟨rfl, h2⟩
  have H2 := Lib.hid h2
  clear h2
  go_wp2
  go_ret
  exact ⟨rfl, H2.out⟩
set_option maxHeartbeats 1600000 in
theorem w_other (w : World) (R : Nat) (hR : R ≤ w.heap.size) (how : Int) (pl fn : Int) (nm : List UInt8) (A : Option Addr) (n c : Nat) (h1 : how ≠ 1) (h2 : how ≠ 2) (h3 : how ≠ 3) (h4 : how ≠ 4) (h5 : how ≠ 5) (h6 : how ≠ 6) (h7 : how ≠ 7) :
    Calls Tryz.prog 61 #[.pointer (some ⟨R, 0, none⟩), itW how pl fn nm A n c] w fun e w' => e = .returned (.bool false) ∧ Below R w w' := by
  have e1 : (how == 1) = false := by rw [beq_eq_false_iff_ne]; exact h1
  have e2 : (how == 2) = false := by rw [beq_eq_false_iff_ne]; exact h2
  have e3 : (how == 3) = false := by rw [beq_eq_false_iff_ne]; exact h3
  have e4 : (how == 4) = false := by rw [beq_eq_false_iff_ne]; exact h4
  have e5 : (how == 5) = false := by rw [beq_eq_false_iff_ne]; exact h5
  have e6 : (how == 6) = false := by rw [beq_eq_false_iff_ne]; exact h6
  have e7 : (how == 7) = false := by rw [beq_eq_false_iff_ne]; exact h7
  clear h1 h2 h3 h4 h5 h6 h7
  unfold itW
  go_enter Tryz.func61, Tryz.ntmps61
  go_wp2
  go_ret
  exact ⟨rfl, ((Below.refl _ _).alloc (Nat.le_refl _) _).mono hR⟩
end Go.Proofs.YtbapgdhcbfpdoaaGreatDoor
