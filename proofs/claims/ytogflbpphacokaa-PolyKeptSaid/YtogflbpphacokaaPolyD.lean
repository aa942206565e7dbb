/- Contracts: Same, Const, Var. -/
import Derived.Laws.StructEq
import Derived.ChangeKeysEq
import Derived.Test.YtogflbpphacokaaPolyC
namespace Go.Proofs.Ytogflbpphacokaa
open Go.RowKit

theorem info5 : (Try.prog.info? 5).isSome = true := by kernel_rfl
set_option maxHeartbeats 400000 in
theorem eq42 (x y : Mo) (d : Nat) (w : World) : (Op.equalIn (d + 2) 42 (.agg #[.int .u8 x.e0, .int .u8 x.e1, .int .u8 x.e2, .int .u8 x.e3, .int .u8 x.e4, .int .u8 x.e5]) (.agg #[.int .u8 y.e0, .int .u8 y.e1, .int .u8 y.e2, .int .u8 y.e3, .int .u8 y.e4, .int .u8 y.e5])).run Try.prog w = .ok (decide (x.e0 = y.e0 ∧ x.e1 = y.e1 ∧ x.e2 = y.e2 ∧ x.e3 = y.e3 ∧ x.e4 = y.e4 ∧ x.e5 = y.e5)) w := by
  obtain ⟨i, hi⟩ := Option.isSome_iff_exists.1 info5
  have hc : Try.prog.cellsOf 5 = 1 := by kernel_rfl
  rw [run_equalIn_array w (d + 1) _ _ Try.underlying42 hi, hc]
  have hr : List.range 6 = [0, 1, 2, 3, 4, 5] := by decide
  rw [hr]
  simp only [Op.eqItems]
  go_simp
  (repeat' split) <;> simp_all
theorem mo_eq (x y : Mo) : x = y ↔ x.n = y.n ∧ x.e0 = y.e0 ∧ x.e1 = y.e1 ∧ x.e2 = y.e2 ∧ x.e3 = y.e3 ∧ x.e4 = y.e4 ∧ x.e5 = y.e5 := by
  cases x; cases y; simp
theorem mo_dec (x y : Mo) : decide (x = y) = (decide (x.n = y.n) && decide (x.e0 = y.e0 ∧ x.e1 = y.e1 ∧ x.e2 = y.e2 ∧ x.e3 = y.e3 ∧ x.e4 = y.e4 ∧ x.e5 = y.e5)) := by
  rw [Bool.eq_iff_iff, Bool.and_eq_true, decide_eq_true_eq, decide_eq_true_eq, decide_eq_true_eq]; exact mo_eq x y
set_option maxHeartbeats 400000 in
theorem neq44 (x y : Mo) (w : World) : (binOp .neq 44 (.agg #[.int .i64 x.n, .int .u8 x.e0, .int .u8 x.e1, .int .u8 x.e2, .int .u8 x.e3, .int .u8 x.e4, .int .u8 x.e5]) (.agg #[.int .i64 y.n, .int .u8 y.e0, .int .u8 y.e1, .int .u8 y.e2, .int .u8 y.e3, .int .u8 y.e4, .int .u8 y.e5])).run Try.prog w = .ok (.bool (!decide (x = y))) w := by
  have h := eq42 x y 9997 w
  rw [show 9997 + 2 = 9999 from rfl] at h
  rw [mo_dec]
  generalize decide (x.e0 = y.e0 ∧ x.e1 = y.e1 ∧ x.e2 = y.e2 ∧ x.e3 = y.e3 ∧ x.e4 = y.e4 ∧ x.e5 = y.e5) = b at h ⊢
  go_simp
  by_cases hn : x.n = y.n
  · rw [if_pos hn, decide_eq_true hn]; cases b <;> rfl
  · rw [if_neg hn, decide_eq_false hn]; rfl
def sameB (a b : List Mo) : Bool := decide (a = b)
theorem same_iff (a b : List Mo) : sameB a b = true ↔ a.length = b.length ∧ ∀ k, k < a.length → nth a k = nth b k := by
  unfold sameB
  rw [decide_eq_true_eq]
  constructor
  · rintro rfl; exact ⟨rfl, fun _ _ => rfl⟩
  · rintro ⟨hl, h⟩
    refine List.ext_getElem hl fun k h1 h2 => ?_
    have := h k h1
    unfold nth at this
    rw [List.getD_eq_getElem?_getD, List.getD_eq_getElem?_getD, List.getElem?_eq_getElem h1, List.getElem?_eq_getElem h2] at this
    exact this
theorem same_len {a b : List Mo} (h : ¬ a.length = b.length) : sameB a b = false := by
  rw [← Bool.not_eq_true, same_iff]; exact fun hh => h hh.1
theorem same_not {a b : List Mo} {k : Nat} (hk : k < a.length) (h : ¬ nth a k = nth b k) : sameB a b = false := by
  rw [← Bool.not_eq_true, same_iff]; exact fun hh => h (hh.2 k hk)

set_option maxHeartbeats 1000000 in
theorem same_any (A B : Option Addr) (p q : List Mo) (c d : Nat) (w : World) (h : Rd w w.heap.size A p) (g : Rd w w.heap.size B q) (hl : p.length ≤ maxLen) : Calls Try.prog 23 #[.slice A p.length c, .slice B q.length d] w fun e w' => e = .returned (.bool (sameB p q)) ∧ Gr w w' := by
  unfold maxLen at hl
  have H := Lib.hid h
  have G := Lib.hid g
  clear h g
  by_cases hlen : p.length = q.length
  · have HL := Lib.hid hlen
    have hn : ((p.length : Int) != q.length) = false := by simp; omega
    have hn2 : (p.length != q.length) = false := by simpa using hlen
    clear hlen
    go_enter Try.func23, Try.ntmps23
    go_wp2
    go_loopw [5] (fun i wr => ∃ k n : Nat, k ≤ p.length ∧ i = .int .i64 k ∧ (∀ j, j < k → nth p j = nth q j) ∧ wr = w.drewN n) (fun i _ => p.length - (intOf i).toNat)
    case atStart => exact ⟨0, 0, by omega, rfl, fun j hj => by omega, rfl⟩
    case round =>
      obtain ⟨k, n, hk, rfl, hok, rfl⟩ := hrel
      have HK := Lib.hid hok
      clear hok
      by_cases hlt : k < p.length
      · obtain ⟨b1, o1, rfl, hb1, hc1⟩ := H.out.at_ k hlt
        obtain ⟨b2, o2, rfl, hb2, hc2⟩ := G.out.at_ k (by have := HL.out; omega)
        have C1 := fun m => (show Cells7 (w.drewN m) b1 (o1 + k * 7) (nth p k) from (hc1 k hlt).2)
        have C2 := fun m => (show Cells7 (w.drewN m) b2 (o2 + k * 7) (nth q k) from (hc2 k (by have := HL.out; omega)).2)
        have n0 := fun m => (C1 m).1
        have n1 := fun m => (C1 m).2.1
        have n2 := fun m => (C1 m).2.2.1
        have n3 := fun m => (C1 m).2.2.2.1
        have n4 := fun m => (C1 m).2.2.2.2.1
        have n5 := fun m => (C1 m).2.2.2.2.2.1
        have n6 := fun m => (C1 m).2.2.2.2.2.2
        have m0 := fun m => (C2 m).1
        have m1 := fun m => (C2 m).2.1
        have m2 := fun m => (C2 m).2.2.1
        have m3 := fun m => (C2 m).2.2.2.1
        have m4 := fun m => (C2 m).2.2.2.2.1
        have m5 := fun m => (C2 m).2.2.2.2.2.1
        have m6 := fun m => (C2 m).2.2.2.2.2.2
        have q1 := idxM b1 o1 p.length c (k : Int) (by omega) (by omega)
        have q2 := idxM b2 o2 q.length d (k : Int) (by omega) (by have := HL.out; omega)
        rw [Int.toNat_natCast] at q1 q2
        clear hc1 hc2 C1 C2
        by_cases he : nth p k = nth q k
        · have hne : ∀ W : World, (binOp .neq 44 (.agg #[.int .i64 (nth p k).n, .int .u8 (nth p k).e0, .int .u8 (nth p k).e1, .int .u8 (nth p k).e2, .int .u8 (nth p k).e3, .int .u8 (nth p k).e4, .int .u8 (nth p k).e5]) (.agg #[.int .i64 (nth q k).n, .int .u8 (nth q k).e0, .int .u8 (nth q k).e1, .int .u8 (nth q k).e2, .int .u8 (nth q k).e3, .int .u8 (nth q k).e4, .int .u8 (nth q k).e5])).run Try.prog W = .ok (.bool false) W := fun W => by
            rw [neq44, decide_eq_true he]; rfl
          have HE := Lib.hid he
          clear he
          go_wp2
          go_quiet (fail)
          clear q1 q2 n0 n1 n2 n3 n4 n5 n6 m0 m1 m2 m3 m4 m5 m6 hne
          go_wp2
          go_roundw
          case rel => exact ⟨k + 1, _, by omega, by go_num, fun j hj => by
            rcases Nat.lt_or_ge j k with h1 | h1
            · exact HK.out j h1
            · obtain rfl : j = k := by omega
              exact HE.out, rfl⟩
          case measure => simp [intOf]; omega
        · have hf := Lib.hid (same_not hlt he)
          have hne : ∀ W : World, (binOp .neq 44 (.agg #[.int .i64 (nth p k).n, .int .u8 (nth p k).e0, .int .u8 (nth p k).e1, .int .u8 (nth p k).e2, .int .u8 (nth p k).e3, .int .u8 (nth p k).e4, .int .u8 (nth p k).e5]) (.agg #[.int .i64 (nth q k).n, .int .u8 (nth q k).e0, .int .u8 (nth q k).e1, .int .u8 (nth q k).e2, .int .u8 (nth q k).e3, .int .u8 (nth q k).e4, .int .u8 (nth q k).e5])).run Try.prog W = .ok (.bool true) W := fun W => by
            rw [neq44, decide_eq_false he]; rfl
          clear he
          go_wp2
          go_quiet (fail)
          clear q1 q2 n0 n1 n2 n3 n4 n5 n6 m0 m1 m2 m3 m4 m5 m6 hne
          go_wp2
          go_ret
          exact ⟨ret_bool hf.out.symm, by repeat (first | exact Gr.refl _ | apply Gr.drewN)⟩
      · obtain rfl : k = p.length := by omega
        have hz := Lib.hid ((same_iff p q).2 ⟨HL.out, HK.out⟩)
        go_wp2
        go_ret
        exact ⟨ret_bool hz.out.symm, by repeat (first | exact Gr.refl _ | apply Gr.drewN)⟩
  · have HR := Lib.hid (same_len hlen)
    have hn : ((p.length : Int) != q.length) = true := by simp; omega
    have hn2 : (p.length != q.length) = true := by simpa using hlen
    clear hlen
    go_enter Try.func23, Try.ntmps23
    go_wp2
    go_ret
    exact ⟨ret_bool HR.out.symm, Gr.refl _⟩
end Go.Proofs.Ytogflbpphacokaa
