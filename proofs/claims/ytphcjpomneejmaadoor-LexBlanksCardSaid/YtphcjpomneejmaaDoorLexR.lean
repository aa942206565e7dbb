/- Contracts: the document's digits. -/
import Derived.Laws.IdiomStrings
import Derived.Lib.ItoaLen
import Derived.Test.YtphcjpomneejmaaDoorLexP
namespace Go.Proofs.YtphcjpomneejmaaDoor
open Go.RowKit

/-- A number's text. -/
def digs (n : Int) : List UInt8 := if n < 0 then 95 :: Lib.decDigits n.natAbs else Lib.decDigits n.natAbs
theorem dec_step {u : Nat} (h : 9 < u) : Lib.decDigits u = Lib.decDigits (u / 10) ++ [UInt8.ofNat (48 + u % 10)] := by
  rw [Lib.decDigits, dif_neg (by omega)]
theorem dec_last {u : Nat} (h : ¬ 9 < u) : Lib.decDigits u = [UInt8.ofNat (48 + u)] := by
  rw [Lib.decDigits, dif_pos (by omega)]
theorem dec_len {u : Nat} (h : u ≤ 9223372036854775808) : (Lib.decDigits u).length ≤ 20 := by
  rw [Lib.decDigits_length]; exact Lib.nDigits_le20 u (by omega)
theorem conv1 (w : World) (x : Int) : (convert 36 9 (.slice (some ⟨w.heap.size, 0, none⟩) 1 1)).run Tryd.prog (w.alloc (.cells #[.int .u8 x] 5)) = .ok (.string (bs [UInt8.ofNat x.toNat])) (w.alloc (.cells #[.int .u8 x] 5)) := by
  have hl : (loadCells ⟨w.heap.size, 0, none⟩ 1).run Tryd.prog (w.alloc (.cells #[.int .u8 x] 5)) = .ok ([x].map (Value.int .u8)).toArray (w.alloc (.cells #[.int .u8 x] 5)) :=
    run_loadCells_list (P := Tryd.prog) _ ⟨w.heap.size, 0, none⟩ ([x].map (Value.int .u8)) (fun j v hj => by
      cases j with
      | zero =>
        simp at hj
        subst hj
        rw [WideShapes.add_plain]
        go_simp
      | succ j => simp at hj)
  rw [run_convert_bytes_string _ _ _ _ _ _ _ Tryd.underlying36 Tryd.underlying5 Tryd.underlying9, run_bytesToString _ _ _ _ _ hl]
  rfl
theorem bs_cons (c : UInt8) (l : List UInt8) : bs [c] ++ bs l = bs (c :: l) := bs_eq (by rw [app_list, bs_list, bs_list]; rfl)
theorem num_eq {k : IntKind} {a b : Int} (h : a = b) : Value.int k a = Value.int k b := by rw [h]
theorem str_eq {a b : ByteArray} (h : a = b) : Value.string a = Value.string b := by rw [h]
set_option maxHeartbeats 1000000 in
theorem digits_any (n : Int) (w : World) (h0 : -9223372036854775808 ≤ n) (h1 : n ≤ 9223372036854775807) : Calls Tryd.prog 26 #[.int .i64 n] w fun e w' => e = .returned (.string (bs (digs n))) ∧ Below w.heap.size w w' := by
  obtain ⟨m, hm⟩ : ∃ m : Nat, n.natAbs = m := ⟨_, rfl⟩
  have hmb : m ≤ 9223372036854775808 := by omega
  have hdl := Lib.hid (dec_len hmb)
  have hcv := conv1
  by_cases hneg : n < 0
  · have hx := Lib.hid (show digs n = 95 :: Lib.decDigits m by unfold digs; rw [if_pos hneg, hm])
    have hng : decide (n < 0) = true := decide_eq_true hneg
    have hst := Lib.hid (show IntKind.u64.wrap (-(IntKind.u64.wrap n)) = (m : Int) by
      simp [IntKind.wrap, IntKind.bits, IntKind.signed]; omega)
    have HM := Lib.hid hm
    clear hm
    go_enter Tryd.func26, Tryd.ntmps26
    go_wp2
    go_loopw [3, 4] (fun s3 s4 wr => ∃ (u : Nat) (l : List UInt8), u ≤ m ∧ s3 = .int .u64 u ∧ s4 = .string (bs l) ∧ Hid (Lib.decDigits m = Lib.decDigits u ++ l) ∧ Hid (Below w.heap.size w wr)) (fun s3 _ _ => (intOf s3).toNat)
    case atStart => exact ⟨m, [], Nat.le_refl _, num_eq hst.out, rfl, by show _ = _; simp, Below.refl _ _⟩
    case round =>
      obtain ⟨u, l, hu, rfl, rfl, HD, HB⟩ := hrel
      have hbr := HB.out.size
      have hll : l.length ≤ 100 := by
        have h3 := congrArg List.length HD.out
        rw [List.length_append] at h3
        have h4 := hdl.out
        omega
      have hzz := bs_size
      have hcat := fun c => bs_cons c l
      have h95 : ∀ x, (⟨#[95]⟩ : ByteArray) ++ bs x = bs (95 :: x) := fun x => bs_cons 95 x
      by_cases h9 : 9 < u
      · have HD2 := Lib.hid (show Lib.decDigits m = Lib.decDigits (u / 10) ++ (UInt8.ofNat (48 + (u % 10 : Nat)) :: l) by rw [HD.out, dec_step h9]; simp)
        go_wp2
        go_roundw
        case rel => exact ⟨u / 10, _, by omega, by go_num, str_eq (congrArg (fun c => bs (c :: l)) (by congr 1; rw [UInt8.ofNat_add]; rfl)), HD2.out, HB.out.alloc hbr _⟩
        case measure => simp [intOf]; omega
      · have HD2 := Lib.hid (show Lib.decDigits m = UInt8.ofNat (48 + u) :: l by rw [HD.out, dec_last h9]; rfl)
        go_wp2
        go_ret
        exact ⟨by rw [hx.out, HD2.out]; exact ret_str (congrArg bs (by congr 2; rw [UInt8.ofNat_add]; rfl)), HB.out.alloc hbr _⟩
  · have hx := Lib.hid (show digs n = Lib.decDigits m by unfold digs; rw [if_neg hneg, hm])
    have hng : decide (n < 0) = false := decide_eq_false hneg
    have hst := Lib.hid (show n = (m : Int) by
      omega)
    have HM := Lib.hid hm
    clear hm
    go_enter Tryd.func26, Tryd.ntmps26
    go_wp2
    go_loopw [3, 4] (fun s3 s4 wr => ∃ (u : Nat) (l : List UInt8), u ≤ m ∧ s3 = .int .u64 u ∧ s4 = .string (bs l) ∧ Hid (Lib.decDigits m = Lib.decDigits u ++ l) ∧ Hid (Below w.heap.size w wr)) (fun s3 _ _ => (intOf s3).toNat)
    case atStart => exact ⟨m, [], Nat.le_refl _, num_eq hst.out, rfl, by show _ = _; simp, Below.refl _ _⟩
    case round =>
      obtain ⟨u, l, hu, rfl, rfl, HD, HB⟩ := hrel
      have hbr := HB.out.size
      have hll : l.length ≤ 100 := by
        have h3 := congrArg List.length HD.out
        rw [List.length_append] at h3
        have h4 := hdl.out
        omega
      have hzz := bs_size
      have hcat := fun c => bs_cons c l
      have h95 : ∀ x, (⟨#[95]⟩ : ByteArray) ++ bs x = bs (95 :: x) := fun x => bs_cons 95 x
      by_cases h9 : 9 < u
      · have HD2 := Lib.hid (show Lib.decDigits m = Lib.decDigits (u / 10) ++ (UInt8.ofNat (48 + (u % 10 : Nat)) :: l) by rw [HD.out, dec_step h9]; simp)
        go_wp2
        go_roundw
        case rel => exact ⟨u / 10, _, by omega, by go_num, str_eq (congrArg (fun c => bs (c :: l)) (by congr 1; rw [UInt8.ofNat_add]; rfl)), HD2.out, HB.out.alloc hbr _⟩
        case measure => simp [intOf]; omega
      · have HD2 := Lib.hid (show Lib.decDigits m = UInt8.ofNat (48 + u) :: l by rw [HD.out, dec_last h9]; rfl)
        go_wp2
        go_ret
        exact ⟨by rw [hx.out, HD2.out]; exact ret_str (congrArg bs (by congr 1; rw [UInt8.ofNat_add]; rfl)), HB.out.alloc hbr _⟩
end Go.Proofs.YtphcjpomneejmaaDoor
