/- Contracts: Add, Sub, and the exponents of a product, of package poly. -/
import Derived.Test.YtogflbpphacokaaPolyZ
namespace Go.Proofs.Ytogflbpphacokaa
open Go.RowKit

set_option maxHeartbeats 1000000 in
theorem add_any (A B : Option Addr) (p q : List Mo) (c d : Nat) (w : World) (h : Rd w w.heap.size A p) (g : Rd w w.heap.size B q) (hl : p.length ≤ maxLen) (hl2 : q.length ≤ maxLen) :
    Calls Try.prog 24 #[.slice A p.length c, .slice B q.length d] w (PolyRes w (addR 1 p q)) := by
  have hc := Lib.hid (sum_any A B p q c d 1 (.inl rfl) w h g hl hl2)
  clear h g
  go_enter Try.func24, Try.ntmps24
  go_wp2_with fail
  refine (hc.out).mono ?_
  rintro e W ⟨A1, c1, rfl, ho, hb⟩
  have HO := Lib.hid ho
  clear ho
  go_wp2
  go_ret2
  exact res_pass HO.out hb
set_option maxHeartbeats 1000000 in
theorem sub_any (A B : Option Addr) (p q : List Mo) (c d : Nat) (w : World) (h : Rd w w.heap.size A p) (g : Rd w w.heap.size B q) (hl : p.length ≤ maxLen) (hl2 : q.length ≤ maxLen) :
    Calls Try.prog 26 #[.slice A p.length c, .slice B q.length d] w (PolyRes w (addR (-1) p q)) := by
  have hc := Lib.hid (sum_any A B p q c d (-1) (.inr rfl) w h g hl hl2)
  clear h g
  go_enter Try.func26, Try.ntmps26
  go_wp2_with fail
  refine (hc.out).mono ?_
  rintro e W ⟨A1, c1, rfl, ho, hb⟩
  have HO := Lib.hid ho
  clear ho
  go_wp2
  go_ret2
  exact res_pass HO.out hb

/-- The exponents of a, the first v of them with those of b. -/
def Mo.plusTo (a b : Mo) (v : Nat) : Mo := match v with
  | 0 => a
  | v + 1 => (a.plusTo b v).setE v (a.e v + b.e v)
theorem plusTo_e (a b : Mo) {v : Nat} (hv : v < 6) : (a.plusTo b v).e v = a.e v := by
  match v, hv with
  | 0, _ => rfl
  | 1, _ => rfl
  | 2, _ => rfl
  | 3, _ => rfl
  | 4, _ => rfl
  | 5, _ => rfl
def tw (w : World) (m b : Mo) : World := ((w.alloc (.cells #[.int .u8 m.e0, .int .u8 m.e1, .int .u8 m.e2, .int .u8 m.e3, .int .u8 m.e4, .int .u8 m.e5] 52)).alloc (.cells #[.int .u8 b.e0, .int .u8 b.e1, .int .u8 b.e2, .int .u8 b.e3, .int .u8 b.e4, .int .u8 b.e5] 52)).alloc (.cells #[.int .u8 0, .int .u8 0, .int .u8 0, .int .u8 0, .int .u8 0, .int .u8 0] 52)
theorem tw_cell (w : World) (m b : Mo) {v : Nat} (hv : v < 6) : (tw w m b).cell? ⟨w.heap.size, v, none⟩ = some (.int .u8 (m.e v)) := by
  unfold tw
  match v, hv with
  | 0, _ => go_simp <;> rfl
  | 1, _ => go_simp <;> rfl
  | 2, _ => go_simp <;> rfl
  | 3, _ => go_simp <;> rfl
  | 4, _ => go_simp <;> rfl
  | 5, _ => go_simp <;> rfl
theorem tw_frozen (w : World) (m b : Mo) (v : Nat) : (tw w m b).frozen? ⟨w.heap.size, v, none⟩ = false := by
  unfold tw; go_simp
theorem tw_set (w : World) (m b : Mo) {v : Nat} (hv : v < 6) (x : Int) : (tw w m b).setCell ⟨w.heap.size, v, none⟩ (.int .u8 x) = tw w (m.setE v x) b := by
  unfold tw
  match v, hv with
  | 0, _ => go_simp <;> rfl
  | 1, _ => go_simp <;> rfl
  | 2, _ => go_simp <;> rfl
  | 3, _ => go_simp <;> rfl
  | 4, _ => go_simp <;> rfl
  | 5, _ => go_simp <;> rfl

theorem idxF (b v : Nat) (hv : v < 6) (w : World) : (Instr.indexAt 52 (.pointer (some ⟨b, 0, none⟩)) (.int .i64 v)).run Try.prog w = .ok (.pointer (some ⟨b, v, none⟩)) w := by
  have e := WideShapes.add_plain b 0 v
  have h1 : (v : Int) < 6 := by omega
  go_simp

set_option maxHeartbeats 1000000 in
theorem together_any (a b : Mo) (hs : ∀ v, 0 ≤ a.e v + b.e v ∧ a.e v + b.e v ≤ 255) (w : World) : Calls Try.prog 40 #[.agg #[.int .u8 a.e0, .int .u8 a.e1, .int .u8 a.e2, .int .u8 a.e3, .int .u8 a.e4, .int .u8 a.e5], .agg #[.int .u8 b.e0, .int .u8 b.e1, .int .u8 b.e2, .int .u8 b.e3, .int .u8 b.e4, .int .u8 b.e5]] w fun e w' => e = .returned (.agg #[.int .u8 (a.mul b).e0, .int .u8 (a.mul b).e1, .int .u8 (a.mul b).e2, .int .u8 (a.mul b).e3, .int .u8 (a.mul b).e4, .int .u8 (a.mul b).e5]) ∧ Gr w w' := by
  have HS := Lib.hid hs
  clear hs
  go_enter Try.func40, Try.ntmps40
  go_wp2
  go_loopw [8] (fun i wr => ∃ v : Nat, v ≤ 6 ∧ i = .int .i64 v ∧ wr = tw w (a.plusTo b v) b) (fun i _ => 6 - (intOf i).toNat)
  case atStart => exact ⟨0, by omega, rfl, rfl⟩
  case round =>
    obtain ⟨v, hv, rfl, hwr⟩ := hrel
    have HWR := Lib.hid hwr
    clear hwr
    by_cases hlt : v < 6
    · have hi := idx52 b v hlt
      have c0 : wr.cell? ⟨w.heap.size, v, none⟩ = some (.int .u8 (a.e v)) := by rw [HWR.out, tw_cell w _ b hlt, plusTo_e a b hlt]
      have f0 : wr.frozen? ⟨w.heap.size, v, none⟩ = false := by rw [HWR.out]; exact tw_frozen w _ b v
      have q1 := idxF w.heap.size v hlt
      have hw : IntKind.u8.wrap (a.e v + b.e v) = a.e v + b.e v := by have := HS.out v; rw [IntKind.wrap_u8]; omega
      go_wp2
      go_roundw
      case rel => exact ⟨v + 1, by omega, by go_num, by rw [HWR.out, tw_set w _ b hlt]; rfl⟩
      case measure => simp [intOf]; omega
    · obtain rfl : v = 6 := by omega
      have hw := HWR.out
      clear HWR
      subst hw
      unfold tw
      go_wp2
      refine bodyPost_ret (v := .agg #[.int .u8 (a.plusTo b 6).e0, .int .u8 (a.plusTo b 6).e1, .int .u8 (a.plusTo b 6).e2, .int .u8 (a.plusTo b 6).e3, .int .u8 (a.plusTo b 6).e4, .int .u8 (a.plusTo b 6).e5]) (by simp [results, Try.results40, go_sem]) rfl ⟨rfl, ?_⟩
      exact (((Gr.refl _).alloc _).alloc _).alloc _
end Go.Proofs.Ytogflbpphacokaa
