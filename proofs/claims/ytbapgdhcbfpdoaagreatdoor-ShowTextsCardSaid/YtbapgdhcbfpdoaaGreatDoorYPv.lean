/- Layer 4, put together: ParBy, ParVb, ParNb, ParTk. -/
import Derived.Laws.IdiomStrings
import Derived.Lib.SlBytesConst
import Derived.ArgAppend
import Derived.Deep.AppendLies
import Derived.Test.YtbapgdhcbfpdoaaGreatDoorYPi
import Derived.Test.YtbapgdhcbfpdoaaGreatDoorYPg
/- Rows of bytes of one's own. -/
namespace Go.Proofs.YtbapgdhcbfpdoaaGreatDoor
open Go.RowKit
def bcells (l : List UInt8) : List Value := l.map fun b => Value.int .u8 b.toNat
def OwnB (w : World) (base : Nat) (v : Value) (l : List UInt8) : Prop := w.ownsRow base 5 1 v l.length (bcells l)
theorem OwnB.nil (w : World) (base : Nat) : OwnB w base (.slice none 0 0) [] := World.ownsRow_nil w base _ _
theorem OwnB.shape {w : World} {base : Nat} {v : Value} {l : List UInt8} (h : OwnB w base v l) : ∃ A c, v = .slice A l.length c := by
  obtain ⟨_, ⟨rfl, h0⟩ | ⟨g, cap, cur, rfl, _⟩⟩ := h
  · exact ⟨none, 0, by rw [h0]⟩
  · exact ⟨_, _, rfl⟩
theorem OwnB.app {w : World} {base n : Nat} {v : Value} {l r : List UInt8} (h : w.ownsRow base 5 1 v n (bcells l ++ bcells r)) (hn : n = l.length + r.length) : OwnB w base v (l ++ r) := by
  subst hn
  unfold OwnB
  rw [List.length_append]
  have e : bcells (l ++ r) = bcells l ++ bcells r := by unfold bcells; rw [List.map_append]
  rw [e]; exact h
/-- The text of a row of bytes. -/
theorem OwnB.text {w : World} {base : Nat} {A : Option Addr} {c : Nat} {l : List UInt8} (h : OwnB w base (.slice A l.length c) l) : (convert 63 9 (.slice A l.length c)).run Tryz.prog w = .ok (.string (bs l)) w := by
  cases A with
  | none =>
    have h0 : l = [] := by
      obtain ⟨_, ⟨e, h0⟩ | ⟨g, cap, cur, e, _⟩⟩ := h
      · exact List.length_eq_zero_iff.1 h0
      · injection e with e1; cases e1
    subst h0
    rw [run_convert_bytes_nil w _ _ Tryz.underlying63 Tryz.underlying5 _ _ _ Tryz.underlying9]
    rfl
  | some a =>
    refine run_convert_bytes_back w _ _ 5 a c l Tryz.underlying63 Tryz.underlying5 Tryz.underlying9 (fun j hj => ?_)
    have hb : ∃ g, a = ⟨g, 0, none⟩ := by
      obtain ⟨_, ⟨e, _⟩ | ⟨g, cap, cur, e, _⟩⟩ := h
      · injection e with e1; cases e1
      · injection e with e1; injection e1 with e1; exact ⟨g, e1⟩
    obtain ⟨g, rfl⟩ := hb
    refine World.ownsRow.cells h (g := g) rfl j _ ?_
    unfold bcells
    rw [List.getElem?_map, List.getElem?_eq_getElem hj]; rfl
theorem OwnB.keep {w w' : World} {base : Nat} {v : Value} {l : List UInt8} (h : OwnB w base v l) (hb : Below w.heap.size w w') : OwnB w' base v l := row_keep h (fun k _ hk => hb.block k hk) (Nat.le_refl _)
/-- A row of bytes of one's own, or a marked one that is full. -/
def RowB (w : World) (base g n cap : Nat) (bl : List UInt8) : Prop :=
  n = bl.length ∧ (OwnB w base (.slice (some ⟨g, 0, none⟩) bl.length cap) bl ∨ (n = cap ∧ base ≤ g ∧ g < w.heap.size ∧ ∀ j, j < n → w.cell? ⟨g, j, none⟩ = some (.int .u8 (bl.getD j 0).toNat)))
theorem RowB.keep {w w' : World} {base g n cap : Nat} {bl : List UInt8} (h : RowB w base g n cap bl) (hb : Below w.heap.size w w') : RowB w' base g n cap bl := by
  obtain ⟨h0, h1 | ⟨h1, h2, h3, h4⟩⟩ := h
  · exact ⟨h0, .inl (h1.keep hb)⟩
  · exact ⟨h0, .inr ⟨h1, h2, Nat.lt_of_lt_of_le h3 hb.size, fun j hj => (cell_below hb h3 j).trans (h4 j hj)⟩⟩
theorem RowB.text {w : World} {base g n cap : Nat} {bl : List UInt8} (h : RowB w base g n cap bl) : (convert 63 9 (.slice (some ⟨g, 0, none⟩) n cap)).run Tryz.prog w = .ok (.string (bs bl)) w := by
  obtain ⟨rfl, h1 | ⟨_, _, _, h4⟩⟩ := h
  · exact h1.text
  · refine run_convert_bytes_back w _ _ 5 ⟨g, 0, none⟩ cap bl Tryz.underlying63 Tryz.underlying5 Tryz.underlying9 (fun j hj => ?_)
    rw [WideShapes.add_plain, Nat.zero_add, h4 j hj, List.getD_eq_getElem?_getD, List.getElem?_eq_getElem hj]; rfl
end Go.Proofs.YtbapgdhcbfpdoaaGreatDoor
/- Contracts of the document's number, Takes, Verb. Written by gen_vb.py. -/
namespace Go.Proofs.YtbapgdhcbfpdoaaGreatDoor
open Go.RowKit
def numN (l : List UInt8) (two : Bool) : Int := if l = [126] then (if two then 9 else 16) else if verbR l true ≤ 17 then verbR l true else 0
theorem rnum_0_true (w : World) : Calls Tryz.prog 89 #[.string (bs [43]), .bool true] w fun e w' => e = .returned (.int .u8 1) ∧ w' = w := by
  have c0 : ((bs [43]).toList == [43]) = true := cmpYes rfl
  go_enter Tryz.func89, Tryz.ntmps89
  go_wp2
  go_ret
  exact ⟨rfl, rfl⟩
theorem rnum_0_false (w : World) : Calls Tryz.prog 89 #[.string (bs [43]), .bool false] w fun e w' => e = .returned (.int .u8 1) ∧ w' = w := by
  have c0 : ((bs [43]).toList == [43]) = true := cmpYes rfl
  go_enter Tryz.func89, Tryz.ntmps89
  go_wp2
  go_ret
  exact ⟨rfl, rfl⟩
theorem rnum_1_true (w : World) : Calls Tryz.prog 89 #[.string (bs [45]), .bool true] w fun e w' => e = .returned (.int .u8 2) ∧ w' = w := by
  have c0 : ((bs [45]).toList == [43]) = false := cmpNo (by decide)
  have c1 : ((bs [45]).toList == [45]) = true := cmpYes rfl
  go_enter Tryz.func89, Tryz.ntmps89
  go_wp2
  go_ret
  exact ⟨rfl, rfl⟩
theorem rnum_1_false (w : World) : Calls Tryz.prog 89 #[.string (bs [45]), .bool false] w fun e w' => e = .returned (.int .u8 2) ∧ w' = w := by
  have c0 : ((bs [45]).toList == [43]) = false := cmpNo (by decide)
  have c1 : ((bs [45]).toList == [45]) = true := cmpYes rfl
  go_enter Tryz.func89, Tryz.ntmps89
  go_wp2
  go_ret
  exact ⟨rfl, rfl⟩
theorem rnum_2_true (w : World) : Calls Tryz.prog 89 #[.string (bs [42]), .bool true] w fun e w' => e = .returned (.int .u8 3) ∧ w' = w := by
  have c0 : ((bs [42]).toList == [43]) = false := cmpNo (by decide)
  have c1 : ((bs [42]).toList == [45]) = false := cmpNo (by decide)
  have c2 : ((bs [42]).toList == [42]) = true := cmpYes rfl
  go_enter Tryz.func89, Tryz.ntmps89
  go_wp2
  go_ret
  exact ⟨rfl, rfl⟩
theorem rnum_2_false (w : World) : Calls Tryz.prog 89 #[.string (bs [42]), .bool false] w fun e w' => e = .returned (.int .u8 3) ∧ w' = w := by
  have c0 : ((bs [42]).toList == [43]) = false := cmpNo (by decide)
  have c1 : ((bs [42]).toList == [45]) = false := cmpNo (by decide)
  have c2 : ((bs [42]).toList == [42]) = true := cmpYes rfl
  go_enter Tryz.func89, Tryz.ntmps89
  go_wp2
  go_ret
  exact ⟨rfl, rfl⟩
theorem rnum_3_true (w : World) : Calls Tryz.prog 89 #[.string (bs [37]), .bool true] w fun e w' => e = .returned (.int .u8 4) ∧ w' = w := by
  have c0 : ((bs [37]).toList == [43]) = false := cmpNo (by decide)
  have c1 : ((bs [37]).toList == [45]) = false := cmpNo (by decide)
  have c2 : ((bs [37]).toList == [42]) = false := cmpNo (by decide)
  have c3 : ((bs [37]).toList == [37]) = true := cmpYes rfl
  go_enter Tryz.func89, Tryz.ntmps89
  go_wp2
  go_ret
  exact ⟨rfl, rfl⟩
theorem rnum_3_false (w : World) : Calls Tryz.prog 89 #[.string (bs [37]), .bool false] w fun e w' => e = .returned (.int .u8 4) ∧ w' = w := by
  have c0 : ((bs [37]).toList == [43]) = false := cmpNo (by decide)
  have c1 : ((bs [37]).toList == [45]) = false := cmpNo (by decide)
  have c2 : ((bs [37]).toList == [42]) = false := cmpNo (by decide)
  have c3 : ((bs [37]).toList == [37]) = true := cmpYes rfl
  go_enter Tryz.func89, Tryz.ntmps89
  go_wp2
  go_ret
  exact ⟨rfl, rfl⟩
theorem rnum_4_true (w : World) : Calls Tryz.prog 89 #[.string (bs [124]), .bool true] w fun e w' => e = .returned (.int .u8 5) ∧ w' = w := by
  have c0 : ((bs [124]).toList == [43]) = false := cmpNo (by decide)
  have c1 : ((bs [124]).toList == [45]) = false := cmpNo (by decide)
  have c2 : ((bs [124]).toList == [42]) = false := cmpNo (by decide)
  have c3 : ((bs [124]).toList == [37]) = false := cmpNo (by decide)
  have c4 : ((bs [124]).toList == [124]) = true := cmpYes rfl
  go_enter Tryz.func89, Tryz.ntmps89
  go_wp2
  go_ret
  exact ⟨rfl, rfl⟩
theorem rnum_4_false (w : World) : Calls Tryz.prog 89 #[.string (bs [124]), .bool false] w fun e w' => e = .returned (.int .u8 5) ∧ w' = w := by
  have c0 : ((bs [124]).toList == [43]) = false := cmpNo (by decide)
  have c1 : ((bs [124]).toList == [45]) = false := cmpNo (by decide)
  have c2 : ((bs [124]).toList == [42]) = false := cmpNo (by decide)
  have c3 : ((bs [124]).toList == [37]) = false := cmpNo (by decide)
  have c4 : ((bs [124]).toList == [124]) = true := cmpYes rfl
  go_enter Tryz.func89, Tryz.ntmps89
  go_wp2
  go_ret
  exact ⟨rfl, rfl⟩
theorem rnum_5_true (w : World) : Calls Tryz.prog 89 #[.string (bs [109, 105, 110]), .bool true] w fun e w' => e = .returned (.int .u8 6) ∧ w' = w := by
  have c0 : ((bs [109, 105, 110]).toList == [43]) = false := cmpNo (by decide)
  have c1 : ((bs [109, 105, 110]).toList == [45]) = false := cmpNo (by decide)
  have c2 : ((bs [109, 105, 110]).toList == [42]) = false := cmpNo (by decide)
  have c3 : ((bs [109, 105, 110]).toList == [37]) = false := cmpNo (by decide)
  have c4 : ((bs [109, 105, 110]).toList == [124]) = false := cmpNo (by decide)
  have c5 : ((bs [109, 105, 110]).toList == [109, 105, 110]) = true := cmpYes rfl
  go_enter Tryz.func89, Tryz.ntmps89
  go_wp2
  go_ret
  exact ⟨rfl, rfl⟩
theorem rnum_5_false (w : World) : Calls Tryz.prog 89 #[.string (bs [109, 105, 110]), .bool false] w fun e w' => e = .returned (.int .u8 6) ∧ w' = w := by
  have c0 : ((bs [109, 105, 110]).toList == [43]) = false := cmpNo (by decide)
  have c1 : ((bs [109, 105, 110]).toList == [45]) = false := cmpNo (by decide)
  have c2 : ((bs [109, 105, 110]).toList == [42]) = false := cmpNo (by decide)
  have c3 : ((bs [109, 105, 110]).toList == [37]) = false := cmpNo (by decide)
  have c4 : ((bs [109, 105, 110]).toList == [124]) = false := cmpNo (by decide)
  have c5 : ((bs [109, 105, 110]).toList == [109, 105, 110]) = true := cmpYes rfl
  go_enter Tryz.func89, Tryz.ntmps89
  go_wp2
  go_ret
  exact ⟨rfl, rfl⟩
theorem rnum_6_true (w : World) : Calls Tryz.prog 89 #[.string (bs [109, 97, 120]), .bool true] w fun e w' => e = .returned (.int .u8 7) ∧ w' = w := by
  have c0 : ((bs [109, 97, 120]).toList == [43]) = false := cmpNo (by decide)
  have c1 : ((bs [109, 97, 120]).toList == [45]) = false := cmpNo (by decide)
  have c2 : ((bs [109, 97, 120]).toList == [42]) = false := cmpNo (by decide)
  have c3 : ((bs [109, 97, 120]).toList == [37]) = false := cmpNo (by decide)
  have c4 : ((bs [109, 97, 120]).toList == [124]) = false := cmpNo (by decide)
  have c5 : ((bs [109, 97, 120]).toList == [109, 105, 110]) = false := cmpNo (by decide)
  have c6 : ((bs [109, 97, 120]).toList == [109, 97, 120]) = true := cmpYes rfl
  go_enter Tryz.func89, Tryz.ntmps89
  go_wp2
  go_ret
  exact ⟨rfl, rfl⟩
theorem rnum_6_false (w : World) : Calls Tryz.prog 89 #[.string (bs [109, 97, 120]), .bool false] w fun e w' => e = .returned (.int .u8 7) ∧ w' = w := by
  have c0 : ((bs [109, 97, 120]).toList == [43]) = false := cmpNo (by decide)
  have c1 : ((bs [109, 97, 120]).toList == [45]) = false := cmpNo (by decide)
  have c2 : ((bs [109, 97, 120]).toList == [42]) = false := cmpNo (by decide)
  have c3 : ((bs [109, 97, 120]).toList == [37]) = false := cmpNo (by decide)
  have c4 : ((bs [109, 97, 120]).toList == [124]) = false := cmpNo (by decide)
  have c5 : ((bs [109, 97, 120]).toList == [109, 105, 110]) = false := cmpNo (by decide)
  have c6 : ((bs [109, 97, 120]).toList == [109, 97, 120]) = true := cmpYes rfl
  go_enter Tryz.func89, Tryz.ntmps89
  go_wp2
  go_ret
  exact ⟨rfl, rfl⟩
theorem rnum_7_true (w : World) : Calls Tryz.prog 89 #[.string (bs [61]), .bool true] w fun e w' => e = .returned (.int .u8 8) ∧ w' = w := by
  have c0 : ((bs [61]).toList == [43]) = false := cmpNo (by decide)
  have c1 : ((bs [61]).toList == [45]) = false := cmpNo (by decide)
  have c2 : ((bs [61]).toList == [42]) = false := cmpNo (by decide)
  have c3 : ((bs [61]).toList == [37]) = false := cmpNo (by decide)
  have c4 : ((bs [61]).toList == [124]) = false := cmpNo (by decide)
  have c5 : ((bs [61]).toList == [109, 105, 110]) = false := cmpNo (by decide)
  have c6 : ((bs [61]).toList == [109, 97, 120]) = false := cmpNo (by decide)
  have c7 : ((bs [61]).toList == [61]) = true := cmpYes rfl
  go_enter Tryz.func89, Tryz.ntmps89
  go_wp2
  go_ret
  exact ⟨rfl, rfl⟩
theorem rnum_7_false (w : World) : Calls Tryz.prog 89 #[.string (bs [61]), .bool false] w fun e w' => e = .returned (.int .u8 8) ∧ w' = w := by
  have c0 : ((bs [61]).toList == [43]) = false := cmpNo (by decide)
  have c1 : ((bs [61]).toList == [45]) = false := cmpNo (by decide)
  have c2 : ((bs [61]).toList == [42]) = false := cmpNo (by decide)
  have c3 : ((bs [61]).toList == [37]) = false := cmpNo (by decide)
  have c4 : ((bs [61]).toList == [124]) = false := cmpNo (by decide)
  have c5 : ((bs [61]).toList == [109, 105, 110]) = false := cmpNo (by decide)
  have c6 : ((bs [61]).toList == [109, 97, 120]) = false := cmpNo (by decide)
  have c7 : ((bs [61]).toList == [61]) = true := cmpYes rfl
  go_enter Tryz.func89, Tryz.ntmps89
  go_wp2
  go_ret
  exact ⟨rfl, rfl⟩
theorem rnum_8_true (w : World) : Calls Tryz.prog 89 #[.string (bs [60]), .bool true] w fun e w' => e = .returned (.int .u8 10) ∧ w' = w := by
  have c0 : ((bs [60]).toList == [43]) = false := cmpNo (by decide)
  have c1 : ((bs [60]).toList == [45]) = false := cmpNo (by decide)
  have c2 : ((bs [60]).toList == [42]) = false := cmpNo (by decide)
  have c3 : ((bs [60]).toList == [37]) = false := cmpNo (by decide)
  have c4 : ((bs [60]).toList == [124]) = false := cmpNo (by decide)
  have c5 : ((bs [60]).toList == [109, 105, 110]) = false := cmpNo (by decide)
  have c6 : ((bs [60]).toList == [109, 97, 120]) = false := cmpNo (by decide)
  have c7 : ((bs [60]).toList == [61]) = false := cmpNo (by decide)
  have c8 : ((bs [60]).toList == [60]) = true := cmpYes rfl
  go_enter Tryz.func89, Tryz.ntmps89
  go_wp2
  go_ret
  exact ⟨rfl, rfl⟩
theorem rnum_8_false (w : World) : Calls Tryz.prog 89 #[.string (bs [60]), .bool false] w fun e w' => e = .returned (.int .u8 10) ∧ w' = w := by
  have c0 : ((bs [60]).toList == [43]) = false := cmpNo (by decide)
  have c1 : ((bs [60]).toList == [45]) = false := cmpNo (by decide)
  have c2 : ((bs [60]).toList == [42]) = false := cmpNo (by decide)
  have c3 : ((bs [60]).toList == [37]) = false := cmpNo (by decide)
  have c4 : ((bs [60]).toList == [124]) = false := cmpNo (by decide)
  have c5 : ((bs [60]).toList == [109, 105, 110]) = false := cmpNo (by decide)
  have c6 : ((bs [60]).toList == [109, 97, 120]) = false := cmpNo (by decide)
  have c7 : ((bs [60]).toList == [61]) = false := cmpNo (by decide)
  have c8 : ((bs [60]).toList == [60]) = true := cmpYes rfl
  go_enter Tryz.func89, Tryz.ntmps89
  go_wp2
  go_ret
  exact ⟨rfl, rfl⟩
theorem rnum_9_true (w : World) : Calls Tryz.prog 89 #[.string (bs [60, 61]), .bool true] w fun e w' => e = .returned (.int .u8 11) ∧ w' = w := by
  have c0 : ((bs [60, 61]).toList == [43]) = false := cmpNo (by decide)
  have c1 : ((bs [60, 61]).toList == [45]) = false := cmpNo (by decide)
  have c2 : ((bs [60, 61]).toList == [42]) = false := cmpNo (by decide)
  have c3 : ((bs [60, 61]).toList == [37]) = false := cmpNo (by decide)
  have c4 : ((bs [60, 61]).toList == [124]) = false := cmpNo (by decide)
  have c5 : ((bs [60, 61]).toList == [109, 105, 110]) = false := cmpNo (by decide)
  have c6 : ((bs [60, 61]).toList == [109, 97, 120]) = false := cmpNo (by decide)
  have c7 : ((bs [60, 61]).toList == [61]) = false := cmpNo (by decide)
  have c8 : ((bs [60, 61]).toList == [60]) = false := cmpNo (by decide)
  have c9 : ((bs [60, 61]).toList == [60, 61]) = true := cmpYes rfl
  go_enter Tryz.func89, Tryz.ntmps89
  go_wp2
  go_ret
  exact ⟨rfl, rfl⟩
theorem rnum_9_false (w : World) : Calls Tryz.prog 89 #[.string (bs [60, 61]), .bool false] w fun e w' => e = .returned (.int .u8 11) ∧ w' = w := by
  have c0 : ((bs [60, 61]).toList == [43]) = false := cmpNo (by decide)
  have c1 : ((bs [60, 61]).toList == [45]) = false := cmpNo (by decide)
  have c2 : ((bs [60, 61]).toList == [42]) = false := cmpNo (by decide)
  have c3 : ((bs [60, 61]).toList == [37]) = false := cmpNo (by decide)
  have c4 : ((bs [60, 61]).toList == [124]) = false := cmpNo (by decide)
  have c5 : ((bs [60, 61]).toList == [109, 105, 110]) = false := cmpNo (by decide)
  have c6 : ((bs [60, 61]).toList == [109, 97, 120]) = false := cmpNo (by decide)
  have c7 : ((bs [60, 61]).toList == [61]) = false := cmpNo (by decide)
  have c8 : ((bs [60, 61]).toList == [60]) = false := cmpNo (by decide)
  have c9 : ((bs [60, 61]).toList == [60, 61]) = true := cmpYes rfl
  go_enter Tryz.func89, Tryz.ntmps89
  go_wp2
  go_ret
  exact ⟨rfl, rfl⟩
theorem rnum_10_true (w : World) : Calls Tryz.prog 89 #[.string (bs [62, 61]), .bool true] w fun e w' => e = .returned (.int .u8 12) ∧ w' = w := by
  have c0 : ((bs [62, 61]).toList == [43]) = false := cmpNo (by decide)
  have c1 : ((bs [62, 61]).toList == [45]) = false := cmpNo (by decide)
  have c2 : ((bs [62, 61]).toList == [42]) = false := cmpNo (by decide)
  have c3 : ((bs [62, 61]).toList == [37]) = false := cmpNo (by decide)
  have c4 : ((bs [62, 61]).toList == [124]) = false := cmpNo (by decide)
  have c5 : ((bs [62, 61]).toList == [109, 105, 110]) = false := cmpNo (by decide)
  have c6 : ((bs [62, 61]).toList == [109, 97, 120]) = false := cmpNo (by decide)
  have c7 : ((bs [62, 61]).toList == [61]) = false := cmpNo (by decide)
  have c8 : ((bs [62, 61]).toList == [60]) = false := cmpNo (by decide)
  have c9 : ((bs [62, 61]).toList == [60, 61]) = false := cmpNo (by decide)
  have c10 : ((bs [62, 61]).toList == [62, 61]) = true := cmpYes rfl
  go_enter Tryz.func89, Tryz.ntmps89
  go_wp2
  go_ret
  exact ⟨rfl, rfl⟩
theorem rnum_10_false (w : World) : Calls Tryz.prog 89 #[.string (bs [62, 61]), .bool false] w fun e w' => e = .returned (.int .u8 12) ∧ w' = w := by
  have c0 : ((bs [62, 61]).toList == [43]) = false := cmpNo (by decide)
  have c1 : ((bs [62, 61]).toList == [45]) = false := cmpNo (by decide)
  have c2 : ((bs [62, 61]).toList == [42]) = false := cmpNo (by decide)
  have c3 : ((bs [62, 61]).toList == [37]) = false := cmpNo (by decide)
  have c4 : ((bs [62, 61]).toList == [124]) = false := cmpNo (by decide)
  have c5 : ((bs [62, 61]).toList == [109, 105, 110]) = false := cmpNo (by decide)
  have c6 : ((bs [62, 61]).toList == [109, 97, 120]) = false := cmpNo (by decide)
  have c7 : ((bs [62, 61]).toList == [61]) = false := cmpNo (by decide)
  have c8 : ((bs [62, 61]).toList == [60]) = false := cmpNo (by decide)
  have c9 : ((bs [62, 61]).toList == [60, 61]) = false := cmpNo (by decide)
  have c10 : ((bs [62, 61]).toList == [62, 61]) = true := cmpYes rfl
  go_enter Tryz.func89, Tryz.ntmps89
  go_wp2
  go_ret
  exact ⟨rfl, rfl⟩
theorem rnum_11_true (w : World) : Calls Tryz.prog 89 #[.string (bs [62]), .bool true] w fun e w' => e = .returned (.int .u8 13) ∧ w' = w := by
  have c0 : ((bs [62]).toList == [43]) = false := cmpNo (by decide)
  have c1 : ((bs [62]).toList == [45]) = false := cmpNo (by decide)
  have c2 : ((bs [62]).toList == [42]) = false := cmpNo (by decide)
  have c3 : ((bs [62]).toList == [37]) = false := cmpNo (by decide)
  have c4 : ((bs [62]).toList == [124]) = false := cmpNo (by decide)
  have c5 : ((bs [62]).toList == [109, 105, 110]) = false := cmpNo (by decide)
  have c6 : ((bs [62]).toList == [109, 97, 120]) = false := cmpNo (by decide)
  have c7 : ((bs [62]).toList == [61]) = false := cmpNo (by decide)
  have c8 : ((bs [62]).toList == [60]) = false := cmpNo (by decide)
  have c9 : ((bs [62]).toList == [60, 61]) = false := cmpNo (by decide)
  have c10 : ((bs [62]).toList == [62, 61]) = false := cmpNo (by decide)
  have c11 : ((bs [62]).toList == [62]) = true := cmpYes rfl
  go_enter Tryz.func89, Tryz.ntmps89
  go_wp2
  go_ret
  exact ⟨rfl, rfl⟩
theorem rnum_11_false (w : World) : Calls Tryz.prog 89 #[.string (bs [62]), .bool false] w fun e w' => e = .returned (.int .u8 13) ∧ w' = w := by
  have c0 : ((bs [62]).toList == [43]) = false := cmpNo (by decide)
  have c1 : ((bs [62]).toList == [45]) = false := cmpNo (by decide)
  have c2 : ((bs [62]).toList == [42]) = false := cmpNo (by decide)
  have c3 : ((bs [62]).toList == [37]) = false := cmpNo (by decide)
  have c4 : ((bs [62]).toList == [124]) = false := cmpNo (by decide)
  have c5 : ((bs [62]).toList == [109, 105, 110]) = false := cmpNo (by decide)
  have c6 : ((bs [62]).toList == [109, 97, 120]) = false := cmpNo (by decide)
  have c7 : ((bs [62]).toList == [61]) = false := cmpNo (by decide)
  have c8 : ((bs [62]).toList == [60]) = false := cmpNo (by decide)
  have c9 : ((bs [62]).toList == [60, 61]) = false := cmpNo (by decide)
  have c10 : ((bs [62]).toList == [62, 61]) = false := cmpNo (by decide)
  have c11 : ((bs [62]).toList == [62]) = true := cmpYes rfl
  go_enter Tryz.func89, Tryz.ntmps89
  go_wp2
  go_ret
  exact ⟨rfl, rfl⟩
theorem rnum_12_true (w : World) : Calls Tryz.prog 89 #[.string (bs [97, 110, 100]), .bool true] w fun e w' => e = .returned (.int .u8 14) ∧ w' = w := by
  have c0 : ((bs [97, 110, 100]).toList == [43]) = false := cmpNo (by decide)
  have c1 : ((bs [97, 110, 100]).toList == [45]) = false := cmpNo (by decide)
  have c2 : ((bs [97, 110, 100]).toList == [42]) = false := cmpNo (by decide)
  have c3 : ((bs [97, 110, 100]).toList == [37]) = false := cmpNo (by decide)
  have c4 : ((bs [97, 110, 100]).toList == [124]) = false := cmpNo (by decide)
  have c5 : ((bs [97, 110, 100]).toList == [109, 105, 110]) = false := cmpNo (by decide)
  have c6 : ((bs [97, 110, 100]).toList == [109, 97, 120]) = false := cmpNo (by decide)
  have c7 : ((bs [97, 110, 100]).toList == [61]) = false := cmpNo (by decide)
  have c8 : ((bs [97, 110, 100]).toList == [60]) = false := cmpNo (by decide)
  have c9 : ((bs [97, 110, 100]).toList == [60, 61]) = false := cmpNo (by decide)
  have c10 : ((bs [97, 110, 100]).toList == [62, 61]) = false := cmpNo (by decide)
  have c11 : ((bs [97, 110, 100]).toList == [62]) = false := cmpNo (by decide)
  have c12 : ((bs [97, 110, 100]).toList == [97, 110, 100]) = true := cmpYes rfl
  go_enter Tryz.func89, Tryz.ntmps89
  go_wp2
  go_ret
  exact ⟨rfl, rfl⟩
theorem rnum_12_false (w : World) : Calls Tryz.prog 89 #[.string (bs [97, 110, 100]), .bool false] w fun e w' => e = .returned (.int .u8 14) ∧ w' = w := by
  have c0 : ((bs [97, 110, 100]).toList == [43]) = false := cmpNo (by decide)
  have c1 : ((bs [97, 110, 100]).toList == [45]) = false := cmpNo (by decide)
  have c2 : ((bs [97, 110, 100]).toList == [42]) = false := cmpNo (by decide)
  have c3 : ((bs [97, 110, 100]).toList == [37]) = false := cmpNo (by decide)
  have c4 : ((bs [97, 110, 100]).toList == [124]) = false := cmpNo (by decide)
  have c5 : ((bs [97, 110, 100]).toList == [109, 105, 110]) = false := cmpNo (by decide)
  have c6 : ((bs [97, 110, 100]).toList == [109, 97, 120]) = false := cmpNo (by decide)
  have c7 : ((bs [97, 110, 100]).toList == [61]) = false := cmpNo (by decide)
  have c8 : ((bs [97, 110, 100]).toList == [60]) = false := cmpNo (by decide)
  have c9 : ((bs [97, 110, 100]).toList == [60, 61]) = false := cmpNo (by decide)
  have c10 : ((bs [97, 110, 100]).toList == [62, 61]) = false := cmpNo (by decide)
  have c11 : ((bs [97, 110, 100]).toList == [62]) = false := cmpNo (by decide)
  have c12 : ((bs [97, 110, 100]).toList == [97, 110, 100]) = true := cmpYes rfl
  go_enter Tryz.func89, Tryz.ntmps89
  go_wp2
  go_ret
  exact ⟨rfl, rfl⟩
theorem rnum_13_true (w : World) : Calls Tryz.prog 89 #[.string (bs [111, 114]), .bool true] w fun e w' => e = .returned (.int .u8 15) ∧ w' = w := by
  have c0 : ((bs [111, 114]).toList == [43]) = false := cmpNo (by decide)
  have c1 : ((bs [111, 114]).toList == [45]) = false := cmpNo (by decide)
  have c2 : ((bs [111, 114]).toList == [42]) = false := cmpNo (by decide)
  have c3 : ((bs [111, 114]).toList == [37]) = false := cmpNo (by decide)
  have c4 : ((bs [111, 114]).toList == [124]) = false := cmpNo (by decide)
  have c5 : ((bs [111, 114]).toList == [109, 105, 110]) = false := cmpNo (by decide)
  have c6 : ((bs [111, 114]).toList == [109, 97, 120]) = false := cmpNo (by decide)
  have c7 : ((bs [111, 114]).toList == [61]) = false := cmpNo (by decide)
  have c8 : ((bs [111, 114]).toList == [60]) = false := cmpNo (by decide)
  have c9 : ((bs [111, 114]).toList == [60, 61]) = false := cmpNo (by decide)
  have c10 : ((bs [111, 114]).toList == [62, 61]) = false := cmpNo (by decide)
  have c11 : ((bs [111, 114]).toList == [62]) = false := cmpNo (by decide)
  have c12 : ((bs [111, 114]).toList == [97, 110, 100]) = false := cmpNo (by decide)
  have c13 : ((bs [111, 114]).toList == [111, 114]) = true := cmpYes rfl
  go_enter Tryz.func89, Tryz.ntmps89
  go_wp2
  go_ret
  exact ⟨rfl, rfl⟩
theorem rnum_13_false (w : World) : Calls Tryz.prog 89 #[.string (bs [111, 114]), .bool false] w fun e w' => e = .returned (.int .u8 15) ∧ w' = w := by
  have c0 : ((bs [111, 114]).toList == [43]) = false := cmpNo (by decide)
  have c1 : ((bs [111, 114]).toList == [45]) = false := cmpNo (by decide)
  have c2 : ((bs [111, 114]).toList == [42]) = false := cmpNo (by decide)
  have c3 : ((bs [111, 114]).toList == [37]) = false := cmpNo (by decide)
  have c4 : ((bs [111, 114]).toList == [124]) = false := cmpNo (by decide)
  have c5 : ((bs [111, 114]).toList == [109, 105, 110]) = false := cmpNo (by decide)
  have c6 : ((bs [111, 114]).toList == [109, 97, 120]) = false := cmpNo (by decide)
  have c7 : ((bs [111, 114]).toList == [61]) = false := cmpNo (by decide)
  have c8 : ((bs [111, 114]).toList == [60]) = false := cmpNo (by decide)
  have c9 : ((bs [111, 114]).toList == [60, 61]) = false := cmpNo (by decide)
  have c10 : ((bs [111, 114]).toList == [62, 61]) = false := cmpNo (by decide)
  have c11 : ((bs [111, 114]).toList == [62]) = false := cmpNo (by decide)
  have c12 : ((bs [111, 114]).toList == [97, 110, 100]) = false := cmpNo (by decide)
  have c13 : ((bs [111, 114]).toList == [111, 114]) = true := cmpYes rfl
  go_enter Tryz.func89, Tryz.ntmps89
  go_wp2
  go_ret
  exact ⟨rfl, rfl⟩
theorem rnum_14_true (w : World) : Calls Tryz.prog 89 #[.string (bs [112, 111, 119]), .bool true] w fun e w' => e = .returned (.int .u8 17) ∧ w' = w := by
  have c0 : ((bs [112, 111, 119]).toList == [43]) = false := cmpNo (by decide)
  have c1 : ((bs [112, 111, 119]).toList == [45]) = false := cmpNo (by decide)
  have c2 : ((bs [112, 111, 119]).toList == [42]) = false := cmpNo (by decide)
  have c3 : ((bs [112, 111, 119]).toList == [37]) = false := cmpNo (by decide)
  have c4 : ((bs [112, 111, 119]).toList == [124]) = false := cmpNo (by decide)
  have c5 : ((bs [112, 111, 119]).toList == [109, 105, 110]) = false := cmpNo (by decide)
  have c6 : ((bs [112, 111, 119]).toList == [109, 97, 120]) = false := cmpNo (by decide)
  have c7 : ((bs [112, 111, 119]).toList == [61]) = false := cmpNo (by decide)
  have c8 : ((bs [112, 111, 119]).toList == [60]) = false := cmpNo (by decide)
  have c9 : ((bs [112, 111, 119]).toList == [60, 61]) = false := cmpNo (by decide)
  have c10 : ((bs [112, 111, 119]).toList == [62, 61]) = false := cmpNo (by decide)
  have c11 : ((bs [112, 111, 119]).toList == [62]) = false := cmpNo (by decide)
  have c12 : ((bs [112, 111, 119]).toList == [97, 110, 100]) = false := cmpNo (by decide)
  have c13 : ((bs [112, 111, 119]).toList == [111, 114]) = false := cmpNo (by decide)
  have c14 : ((bs [112, 111, 119]).toList == [112, 111, 119]) = true := cmpYes rfl
  go_enter Tryz.func89, Tryz.ntmps89
  go_wp2
  go_ret
  exact ⟨rfl, rfl⟩
theorem rnum_14_false (w : World) : Calls Tryz.prog 89 #[.string (bs [112, 111, 119]), .bool false] w fun e w' => e = .returned (.int .u8 17) ∧ w' = w := by
  have c0 : ((bs [112, 111, 119]).toList == [43]) = false := cmpNo (by decide)
  have c1 : ((bs [112, 111, 119]).toList == [45]) = false := cmpNo (by decide)
  have c2 : ((bs [112, 111, 119]).toList == [42]) = false := cmpNo (by decide)
  have c3 : ((bs [112, 111, 119]).toList == [37]) = false := cmpNo (by decide)
  have c4 : ((bs [112, 111, 119]).toList == [124]) = false := cmpNo (by decide)
  have c5 : ((bs [112, 111, 119]).toList == [109, 105, 110]) = false := cmpNo (by decide)
  have c6 : ((bs [112, 111, 119]).toList == [109, 97, 120]) = false := cmpNo (by decide)
  have c7 : ((bs [112, 111, 119]).toList == [61]) = false := cmpNo (by decide)
  have c8 : ((bs [112, 111, 119]).toList == [60]) = false := cmpNo (by decide)
  have c9 : ((bs [112, 111, 119]).toList == [60, 61]) = false := cmpNo (by decide)
  have c10 : ((bs [112, 111, 119]).toList == [62, 61]) = false := cmpNo (by decide)
  have c11 : ((bs [112, 111, 119]).toList == [62]) = false := cmpNo (by decide)
  have c12 : ((bs [112, 111, 119]).toList == [97, 110, 100]) = false := cmpNo (by decide)
  have c13 : ((bs [112, 111, 119]).toList == [111, 114]) = false := cmpNo (by decide)
  have c14 : ((bs [112, 111, 119]).toList == [112, 111, 119]) = true := cmpYes rfl
  go_enter Tryz.func89, Tryz.ntmps89
  go_wp2
  go_ret
  exact ⟨rfl, rfl⟩
theorem rnum_15_true (w : World) : Calls Tryz.prog 89 #[.string (bs [126]), .bool true] w fun e w' => e = .returned (.int .u8 9) ∧ w' = w := by
  have c0 : ((bs [126]).toList == [43]) = false := cmpNo (by decide)
  have c1 : ((bs [126]).toList == [45]) = false := cmpNo (by decide)
  have c2 : ((bs [126]).toList == [42]) = false := cmpNo (by decide)
  have c3 : ((bs [126]).toList == [37]) = false := cmpNo (by decide)
  have c4 : ((bs [126]).toList == [124]) = false := cmpNo (by decide)
  have c5 : ((bs [126]).toList == [109, 105, 110]) = false := cmpNo (by decide)
  have c6 : ((bs [126]).toList == [109, 97, 120]) = false := cmpNo (by decide)
  have c7 : ((bs [126]).toList == [61]) = false := cmpNo (by decide)
  have c8 : ((bs [126]).toList == [60]) = false := cmpNo (by decide)
  have c9 : ((bs [126]).toList == [60, 61]) = false := cmpNo (by decide)
  have c10 : ((bs [126]).toList == [62, 61]) = false := cmpNo (by decide)
  have c11 : ((bs [126]).toList == [62]) = false := cmpNo (by decide)
  have c12 : ((bs [126]).toList == [97, 110, 100]) = false := cmpNo (by decide)
  have c13 : ((bs [126]).toList == [111, 114]) = false := cmpNo (by decide)
  have c14 : ((bs [126]).toList == [112, 111, 119]) = false := cmpNo (by decide)
  have c15 : ((bs [126]).toList == [126]) = true := cmpYes rfl
  go_enter Tryz.func89, Tryz.ntmps89
  go_wp2
  go_ret
  exact ⟨rfl, rfl⟩
theorem rnum_15_false (w : World) : Calls Tryz.prog 89 #[.string (bs [126]), .bool false] w fun e w' => e = .returned (.int .u8 16) ∧ w' = w := by
  have c0 : ((bs [126]).toList == [43]) = false := cmpNo (by decide)
  have c1 : ((bs [126]).toList == [45]) = false := cmpNo (by decide)
  have c2 : ((bs [126]).toList == [42]) = false := cmpNo (by decide)
  have c3 : ((bs [126]).toList == [37]) = false := cmpNo (by decide)
  have c4 : ((bs [126]).toList == [124]) = false := cmpNo (by decide)
  have c5 : ((bs [126]).toList == [109, 105, 110]) = false := cmpNo (by decide)
  have c6 : ((bs [126]).toList == [109, 97, 120]) = false := cmpNo (by decide)
  have c7 : ((bs [126]).toList == [61]) = false := cmpNo (by decide)
  have c8 : ((bs [126]).toList == [60]) = false := cmpNo (by decide)
  have c9 : ((bs [126]).toList == [60, 61]) = false := cmpNo (by decide)
  have c10 : ((bs [126]).toList == [62, 61]) = false := cmpNo (by decide)
  have c11 : ((bs [126]).toList == [62]) = false := cmpNo (by decide)
  have c12 : ((bs [126]).toList == [97, 110, 100]) = false := cmpNo (by decide)
  have c13 : ((bs [126]).toList == [111, 114]) = false := cmpNo (by decide)
  have c14 : ((bs [126]).toList == [112, 111, 119]) = false := cmpNo (by decide)
  have c15 : ((bs [126]).toList == [126]) = true := cmpYes rfl
  go_enter Tryz.func89, Tryz.ntmps89
  go_wp2
  go_ret
  exact ⟨rfl, rfl⟩
theorem rnum_no (l : List UInt8) (two : Bool) (w : World) (h : l ≠ [43] ∧ l ≠ [45] ∧ l ≠ [42] ∧ l ≠ [37] ∧ l ≠ [124] ∧ l ≠ [109, 105, 110] ∧ l ≠ [109, 97, 120] ∧ l ≠ [61] ∧ l ≠ [60] ∧ l ≠ [60, 61] ∧ l ≠ [62, 61] ∧ l ≠ [62] ∧ l ≠ [97, 110, 100] ∧ l ≠ [111, 114] ∧ l ≠ [112, 111, 119] ∧ l ≠ [126]) : Calls Tryz.prog 89 #[.string (bs l), .bool two] w fun e w' => e = .returned (.int .u8 0) ∧ w' = w := by
  obtain ⟨h0, h1, h2, h3, h4, h5, h6, h7, h8, h9, h10, h11, h12, h13, h14, h15⟩ := h
  have c0 : ((bs l).toList == [43]) = false := cmpNo h0
  have c1 : ((bs l).toList == [45]) = false := cmpNo h1
  have c2 : ((bs l).toList == [42]) = false := cmpNo h2
  have c3 : ((bs l).toList == [37]) = false := cmpNo h3
  have c4 : ((bs l).toList == [124]) = false := cmpNo h4
  have c5 : ((bs l).toList == [109, 105, 110]) = false := cmpNo h5
  have c6 : ((bs l).toList == [109, 97, 120]) = false := cmpNo h6
  have c7 : ((bs l).toList == [61]) = false := cmpNo h7
  have c8 : ((bs l).toList == [60]) = false := cmpNo h8
  have c9 : ((bs l).toList == [60, 61]) = false := cmpNo h9
  have c10 : ((bs l).toList == [62, 61]) = false := cmpNo h10
  have c11 : ((bs l).toList == [62]) = false := cmpNo h11
  have c12 : ((bs l).toList == [97, 110, 100]) = false := cmpNo h12
  have c13 : ((bs l).toList == [111, 114]) = false := cmpNo h13
  have c14 : ((bs l).toList == [112, 111, 119]) = false := cmpNo h14
  have c15 : ((bs l).toList == [126]) = false := cmpNo h15
  clear h0 h1 h2 h3 h4 h5 h6 h7 h8 h9 h10 h11 h12 h13 h14 h15
  go_enter Tryz.func89, Tryz.ntmps89
  go_wp2
  go_ret
  exact ⟨rfl, rfl⟩
theorem rtk_1_true (w : World) : Calls Tryz.prog 64 #[.int .u8 1, .bool true] w fun e w' => e = .returned (.bool true) ∧ w' = w := by
  go_enter Tryz.func64, Tryz.ntmps64
  go_wp2
  go_ret
  exact ⟨rfl, rfl⟩
theorem rtk_1_false (w : World) : Calls Tryz.prog 64 #[.int .u8 1, .bool false] w fun e w' => e = .returned (.bool true) ∧ w' = w := by
  go_enter Tryz.func64, Tryz.ntmps64
  go_wp2
  go_ret
  exact ⟨rfl, rfl⟩
theorem rtk_2_true (w : World) : Calls Tryz.prog 64 #[.int .u8 2, .bool true] w fun e w' => e = .returned (.bool true) ∧ w' = w := by
  go_enter Tryz.func64, Tryz.ntmps64
  go_wp2
  go_ret
  exact ⟨rfl, rfl⟩
theorem rtk_2_false (w : World) : Calls Tryz.prog 64 #[.int .u8 2, .bool false] w fun e w' => e = .returned (.bool true) ∧ w' = w := by
  go_enter Tryz.func64, Tryz.ntmps64
  go_wp2
  go_ret
  exact ⟨rfl, rfl⟩
theorem rtk_3_true (w : World) : Calls Tryz.prog 64 #[.int .u8 3, .bool true] w fun e w' => e = .returned (.bool true) ∧ w' = w := by
  go_enter Tryz.func64, Tryz.ntmps64
  go_wp2
  go_ret
  exact ⟨rfl, rfl⟩
theorem rtk_3_false (w : World) : Calls Tryz.prog 64 #[.int .u8 3, .bool false] w fun e w' => e = .returned (.bool true) ∧ w' = w := by
  go_enter Tryz.func64, Tryz.ntmps64
  go_wp2
  go_ret
  exact ⟨rfl, rfl⟩
theorem rtk_4_true (w : World) : Calls Tryz.prog 64 #[.int .u8 4, .bool true] w fun e w' => e = .returned (.bool true) ∧ w' = w := by
  go_enter Tryz.func64, Tryz.ntmps64
  go_wp2
  go_ret
  exact ⟨rfl, rfl⟩
theorem rtk_4_false (w : World) : Calls Tryz.prog 64 #[.int .u8 4, .bool false] w fun e w' => e = .returned (.bool true) ∧ w' = w := by
  go_enter Tryz.func64, Tryz.ntmps64
  go_wp2
  go_ret
  exact ⟨rfl, rfl⟩
theorem rtk_5_true (w : World) : Calls Tryz.prog 64 #[.int .u8 5, .bool true] w fun e w' => e = .returned (.bool true) ∧ w' = w := by
  go_enter Tryz.func64, Tryz.ntmps64
  go_wp2
  go_ret
  exact ⟨rfl, rfl⟩
theorem rtk_5_false (w : World) : Calls Tryz.prog 64 #[.int .u8 5, .bool false] w fun e w' => e = .returned (.bool true) ∧ w' = w := by
  go_enter Tryz.func64, Tryz.ntmps64
  go_wp2
  go_ret
  exact ⟨rfl, rfl⟩
theorem rtk_6_true (w : World) : Calls Tryz.prog 64 #[.int .u8 6, .bool true] w fun e w' => e = .returned (.bool true) ∧ w' = w := by
  go_enter Tryz.func64, Tryz.ntmps64
  go_wp2
  go_ret
  exact ⟨rfl, rfl⟩
theorem rtk_6_false (w : World) : Calls Tryz.prog 64 #[.int .u8 6, .bool false] w fun e w' => e = .returned (.bool true) ∧ w' = w := by
  go_enter Tryz.func64, Tryz.ntmps64
  go_wp2
  go_ret
  exact ⟨rfl, rfl⟩
theorem rtk_7_true (w : World) : Calls Tryz.prog 64 #[.int .u8 7, .bool true] w fun e w' => e = .returned (.bool true) ∧ w' = w := by
  go_enter Tryz.func64, Tryz.ntmps64
  go_wp2
  go_ret
  exact ⟨rfl, rfl⟩
theorem rtk_7_false (w : World) : Calls Tryz.prog 64 #[.int .u8 7, .bool false] w fun e w' => e = .returned (.bool true) ∧ w' = w := by
  go_enter Tryz.func64, Tryz.ntmps64
  go_wp2
  go_ret
  exact ⟨rfl, rfl⟩
theorem rtk_8_true (w : World) : Calls Tryz.prog 64 #[.int .u8 8, .bool true] w fun e w' => e = .returned (.bool true) ∧ w' = w := by
  go_enter Tryz.func64, Tryz.ntmps64
  go_wp2
  go_ret
  exact ⟨rfl, rfl⟩
theorem rtk_8_false (w : World) : Calls Tryz.prog 64 #[.int .u8 8, .bool false] w fun e w' => e = .returned (.bool false) ∧ w' = w := by
  go_enter Tryz.func64, Tryz.ntmps64
  go_wp2
  go_ret
  exact ⟨rfl, rfl⟩
theorem rtk_9_true (w : World) : Calls Tryz.prog 64 #[.int .u8 9, .bool true] w fun e w' => e = .returned (.bool true) ∧ w' = w := by
  go_enter Tryz.func64, Tryz.ntmps64
  go_wp2
  go_ret
  exact ⟨rfl, rfl⟩
theorem rtk_9_false (w : World) : Calls Tryz.prog 64 #[.int .u8 9, .bool false] w fun e w' => e = .returned (.bool false) ∧ w' = w := by
  go_enter Tryz.func64, Tryz.ntmps64
  go_wp2
  go_ret
  exact ⟨rfl, rfl⟩
theorem rtk_10_true (w : World) : Calls Tryz.prog 64 #[.int .u8 10, .bool true] w fun e w' => e = .returned (.bool true) ∧ w' = w := by
  go_enter Tryz.func64, Tryz.ntmps64
  go_wp2
  go_ret
  exact ⟨rfl, rfl⟩
theorem rtk_10_false (w : World) : Calls Tryz.prog 64 #[.int .u8 10, .bool false] w fun e w' => e = .returned (.bool false) ∧ w' = w := by
  go_enter Tryz.func64, Tryz.ntmps64
  go_wp2
  go_ret
  exact ⟨rfl, rfl⟩
theorem rtk_11_true (w : World) : Calls Tryz.prog 64 #[.int .u8 11, .bool true] w fun e w' => e = .returned (.bool true) ∧ w' = w := by
  go_enter Tryz.func64, Tryz.ntmps64
  go_wp2
  go_ret
  exact ⟨rfl, rfl⟩
theorem rtk_11_false (w : World) : Calls Tryz.prog 64 #[.int .u8 11, .bool false] w fun e w' => e = .returned (.bool false) ∧ w' = w := by
  go_enter Tryz.func64, Tryz.ntmps64
  go_wp2
  go_ret
  exact ⟨rfl, rfl⟩
theorem rtk_12_true (w : World) : Calls Tryz.prog 64 #[.int .u8 12, .bool true] w fun e w' => e = .returned (.bool true) ∧ w' = w := by
  go_enter Tryz.func64, Tryz.ntmps64
  go_wp2
  go_ret
  exact ⟨rfl, rfl⟩
theorem rtk_12_false (w : World) : Calls Tryz.prog 64 #[.int .u8 12, .bool false] w fun e w' => e = .returned (.bool false) ∧ w' = w := by
  go_enter Tryz.func64, Tryz.ntmps64
  go_wp2
  go_ret
  exact ⟨rfl, rfl⟩
theorem rtk_13_true (w : World) : Calls Tryz.prog 64 #[.int .u8 13, .bool true] w fun e w' => e = .returned (.bool true) ∧ w' = w := by
  go_enter Tryz.func64, Tryz.ntmps64
  go_wp2
  go_ret
  exact ⟨rfl, rfl⟩
theorem rtk_13_false (w : World) : Calls Tryz.prog 64 #[.int .u8 13, .bool false] w fun e w' => e = .returned (.bool false) ∧ w' = w := by
  go_enter Tryz.func64, Tryz.ntmps64
  go_wp2
  go_ret
  exact ⟨rfl, rfl⟩
theorem rtk_14_true (w : World) : Calls Tryz.prog 64 #[.int .u8 14, .bool true] w fun e w' => e = .returned (.bool true) ∧ w' = w := by
  go_enter Tryz.func64, Tryz.ntmps64
  go_wp2
  go_ret
  exact ⟨rfl, rfl⟩
theorem rtk_14_false (w : World) : Calls Tryz.prog 64 #[.int .u8 14, .bool false] w fun e w' => e = .returned (.bool false) ∧ w' = w := by
  go_enter Tryz.func64, Tryz.ntmps64
  go_wp2
  go_ret
  exact ⟨rfl, rfl⟩
theorem rtk_15_true (w : World) : Calls Tryz.prog 64 #[.int .u8 15, .bool true] w fun e w' => e = .returned (.bool true) ∧ w' = w := by
  go_enter Tryz.func64, Tryz.ntmps64
  go_wp2
  go_ret
  exact ⟨rfl, rfl⟩
theorem rtk_15_false (w : World) : Calls Tryz.prog 64 #[.int .u8 15, .bool false] w fun e w' => e = .returned (.bool false) ∧ w' = w := by
  go_enter Tryz.func64, Tryz.ntmps64
  go_wp2
  go_ret
  exact ⟨rfl, rfl⟩
theorem rtk_16_true (w : World) : Calls Tryz.prog 64 #[.int .u8 16, .bool true] w fun e w' => e = .returned (.bool false) ∧ w' = w := by
  go_enter Tryz.func64, Tryz.ntmps64
  go_wp2
  go_ret
  exact ⟨rfl, rfl⟩
theorem rtk_16_false (w : World) : Calls Tryz.prog 64 #[.int .u8 16, .bool false] w fun e w' => e = .returned (.bool true) ∧ w' = w := by
  go_enter Tryz.func64, Tryz.ntmps64
  go_wp2
  go_ret
  exact ⟨rfl, rfl⟩
theorem rtk_17_true (w : World) : Calls Tryz.prog 64 #[.int .u8 17, .bool true] w fun e w' => e = .returned (.bool true) ∧ w' = w := by
  go_enter Tryz.func64, Tryz.ntmps64
  go_wp2
  go_ret
  exact ⟨rfl, rfl⟩
theorem rtk_17_false (w : World) : Calls Tryz.prog 64 #[.int .u8 17, .bool false] w fun e w' => e = .returned (.bool false) ∧ w' = w := by
  go_enter Tryz.func64, Tryz.ntmps64
  go_wp2
  go_ret
  exact ⟨rfl, rfl⟩
set_option maxHeartbeats 800000 in
theorem rvb_n0_true (w : World) : Calls Tryz.prog 68 #[.string (bs [43]), .bool true] w fun e w' => e = .returned (.tuple #[.int .u8 1, .bool true]) ∧ w' = w := by
  go_enter Tryz.func68, Tryz.ntmps68
  go_wp2_with (first
    | (go_at_call 89; refine (rnum_0_true _).mono ?_; rintro e w1 ⟨rfl, e1⟩; subst e1)
    | (go_at_call 64; refine (rtk_1_true _).mono ?_; rintro e w1 ⟨rfl, e1⟩; subst e1))
  go_ret2
  exact ⟨rfl, rfl⟩
set_option maxHeartbeats 800000 in
theorem rvb_n0_false (w : World) : Calls Tryz.prog 68 #[.string (bs [43]), .bool false] w fun e w' => e = .returned (.tuple #[.int .u8 1, .bool true]) ∧ w' = w := by
  go_enter Tryz.func68, Tryz.ntmps68
  go_wp2_with (first
    | (go_at_call 89; refine (rnum_0_false _).mono ?_; rintro e w1 ⟨rfl, e1⟩; subst e1)
    | (go_at_call 64; refine (rtk_1_false _).mono ?_; rintro e w1 ⟨rfl, e1⟩; subst e1))
  go_ret2
  exact ⟨rfl, rfl⟩
set_option maxHeartbeats 800000 in
theorem rvb_n1_true (w : World) : Calls Tryz.prog 68 #[.string (bs [45]), .bool true] w fun e w' => e = .returned (.tuple #[.int .u8 2, .bool true]) ∧ w' = w := by
  go_enter Tryz.func68, Tryz.ntmps68
  go_wp2_with (first
    | (go_at_call 89; refine (rnum_1_true _).mono ?_; rintro e w1 ⟨rfl, e1⟩; subst e1)
    | (go_at_call 64; refine (rtk_2_true _).mono ?_; rintro e w1 ⟨rfl, e1⟩; subst e1))
  go_ret2
  exact ⟨rfl, rfl⟩
set_option maxHeartbeats 800000 in
theorem rvb_n1_false (w : World) : Calls Tryz.prog 68 #[.string (bs [45]), .bool false] w fun e w' => e = .returned (.tuple #[.int .u8 2, .bool true]) ∧ w' = w := by
  go_enter Tryz.func68, Tryz.ntmps68
  go_wp2_with (first
    | (go_at_call 89; refine (rnum_1_false _).mono ?_; rintro e w1 ⟨rfl, e1⟩; subst e1)
    | (go_at_call 64; refine (rtk_2_false _).mono ?_; rintro e w1 ⟨rfl, e1⟩; subst e1))
  go_ret2
  exact ⟨rfl, rfl⟩
set_option maxHeartbeats 800000 in
theorem rvb_n2_true (w : World) : Calls Tryz.prog 68 #[.string (bs [42]), .bool true] w fun e w' => e = .returned (.tuple #[.int .u8 3, .bool true]) ∧ w' = w := by
  go_enter Tryz.func68, Tryz.ntmps68
  go_wp2_with (first
    | (go_at_call 89; refine (rnum_2_true _).mono ?_; rintro e w1 ⟨rfl, e1⟩; subst e1)
    | (go_at_call 64; refine (rtk_3_true _).mono ?_; rintro e w1 ⟨rfl, e1⟩; subst e1))
  go_ret2
  exact ⟨rfl, rfl⟩
set_option maxHeartbeats 800000 in
theorem rvb_n2_false (w : World) : Calls Tryz.prog 68 #[.string (bs [42]), .bool false] w fun e w' => e = .returned (.tuple #[.int .u8 3, .bool true]) ∧ w' = w := by
  go_enter Tryz.func68, Tryz.ntmps68
  go_wp2_with (first
    | (go_at_call 89; refine (rnum_2_false _).mono ?_; rintro e w1 ⟨rfl, e1⟩; subst e1)
    | (go_at_call 64; refine (rtk_3_false _).mono ?_; rintro e w1 ⟨rfl, e1⟩; subst e1))
  go_ret2
  exact ⟨rfl, rfl⟩
set_option maxHeartbeats 800000 in
theorem rvb_n3_true (w : World) : Calls Tryz.prog 68 #[.string (bs [37]), .bool true] w fun e w' => e = .returned (.tuple #[.int .u8 4, .bool true]) ∧ w' = w := by
  go_enter Tryz.func68, Tryz.ntmps68
  go_wp2_with (first
    | (go_at_call 89; refine (rnum_3_true _).mono ?_; rintro e w1 ⟨rfl, e1⟩; subst e1)
    | (go_at_call 64; refine (rtk_4_true _).mono ?_; rintro e w1 ⟨rfl, e1⟩; subst e1))
  go_ret2
  exact ⟨rfl, rfl⟩
set_option maxHeartbeats 800000 in
theorem rvb_n3_false (w : World) : Calls Tryz.prog 68 #[.string (bs [37]), .bool false] w fun e w' => e = .returned (.tuple #[.int .u8 4, .bool true]) ∧ w' = w := by
  go_enter Tryz.func68, Tryz.ntmps68
  go_wp2_with (first
    | (go_at_call 89; refine (rnum_3_false _).mono ?_; rintro e w1 ⟨rfl, e1⟩; subst e1)
    | (go_at_call 64; refine (rtk_4_false _).mono ?_; rintro e w1 ⟨rfl, e1⟩; subst e1))
  go_ret2
  exact ⟨rfl, rfl⟩
set_option maxHeartbeats 800000 in
theorem rvb_n4_true (w : World) : Calls Tryz.prog 68 #[.string (bs [124]), .bool true] w fun e w' => e = .returned (.tuple #[.int .u8 5, .bool true]) ∧ w' = w := by
  go_enter Tryz.func68, Tryz.ntmps68
  go_wp2_with (first
    | (go_at_call 89; refine (rnum_4_true _).mono ?_; rintro e w1 ⟨rfl, e1⟩; subst e1)
    | (go_at_call 64; refine (rtk_5_true _).mono ?_; rintro e w1 ⟨rfl, e1⟩; subst e1))
  go_ret2
  exact ⟨rfl, rfl⟩
set_option maxHeartbeats 800000 in
theorem rvb_n4_false (w : World) : Calls Tryz.prog 68 #[.string (bs [124]), .bool false] w fun e w' => e = .returned (.tuple #[.int .u8 5, .bool true]) ∧ w' = w := by
  go_enter Tryz.func68, Tryz.ntmps68
  go_wp2_with (first
    | (go_at_call 89; refine (rnum_4_false _).mono ?_; rintro e w1 ⟨rfl, e1⟩; subst e1)
    | (go_at_call 64; refine (rtk_5_false _).mono ?_; rintro e w1 ⟨rfl, e1⟩; subst e1))
  go_ret2
  exact ⟨rfl, rfl⟩
set_option maxHeartbeats 800000 in
theorem rvb_n5_true (w : World) : Calls Tryz.prog 68 #[.string (bs [109, 105, 110]), .bool true] w fun e w' => e = .returned (.tuple #[.int .u8 6, .bool true]) ∧ w' = w := by
  go_enter Tryz.func68, Tryz.ntmps68
  go_wp2_with (first
    | (go_at_call 89; refine (rnum_5_true _).mono ?_; rintro e w1 ⟨rfl, e1⟩; subst e1)
    | (go_at_call 64; refine (rtk_6_true _).mono ?_; rintro e w1 ⟨rfl, e1⟩; subst e1))
  go_ret2
  exact ⟨rfl, rfl⟩
set_option maxHeartbeats 800000 in
theorem rvb_n5_false (w : World) : Calls Tryz.prog 68 #[.string (bs [109, 105, 110]), .bool false] w fun e w' => e = .returned (.tuple #[.int .u8 6, .bool true]) ∧ w' = w := by
  go_enter Tryz.func68, Tryz.ntmps68
  go_wp2_with (first
    | (go_at_call 89; refine (rnum_5_false _).mono ?_; rintro e w1 ⟨rfl, e1⟩; subst e1)
    | (go_at_call 64; refine (rtk_6_false _).mono ?_; rintro e w1 ⟨rfl, e1⟩; subst e1))
  go_ret2
  exact ⟨rfl, rfl⟩
set_option maxHeartbeats 800000 in
theorem rvb_n6_true (w : World) : Calls Tryz.prog 68 #[.string (bs [109, 97, 120]), .bool true] w fun e w' => e = .returned (.tuple #[.int .u8 7, .bool true]) ∧ w' = w := by
  go_enter Tryz.func68, Tryz.ntmps68
  go_wp2_with (first
    | (go_at_call 89; refine (rnum_6_true _).mono ?_; rintro e w1 ⟨rfl, e1⟩; subst e1)
    | (go_at_call 64; refine (rtk_7_true _).mono ?_; rintro e w1 ⟨rfl, e1⟩; subst e1))
  go_ret2
  exact ⟨rfl, rfl⟩
set_option maxHeartbeats 800000 in
theorem rvb_n6_false (w : World) : Calls Tryz.prog 68 #[.string (bs [109, 97, 120]), .bool false] w fun e w' => e = .returned (.tuple #[.int .u8 7, .bool true]) ∧ w' = w := by
  go_enter Tryz.func68, Tryz.ntmps68
  go_wp2_with (first
    | (go_at_call 89; refine (rnum_6_false _).mono ?_; rintro e w1 ⟨rfl, e1⟩; subst e1)
    | (go_at_call 64; refine (rtk_7_false _).mono ?_; rintro e w1 ⟨rfl, e1⟩; subst e1))
  go_ret2
  exact ⟨rfl, rfl⟩
set_option maxHeartbeats 800000 in
theorem rvb_n7_true (w : World) : Calls Tryz.prog 68 #[.string (bs [61]), .bool true] w fun e w' => e = .returned (.tuple #[.int .u8 8, .bool true]) ∧ w' = w := by
  go_enter Tryz.func68, Tryz.ntmps68
  go_wp2_with (first
    | (go_at_call 89; refine (rnum_7_true _).mono ?_; rintro e w1 ⟨rfl, e1⟩; subst e1)
    | (go_at_call 64; refine (rtk_8_true _).mono ?_; rintro e w1 ⟨rfl, e1⟩; subst e1))
  go_ret2
  exact ⟨rfl, rfl⟩
set_option maxHeartbeats 800000 in
theorem rvb_n7_false (w : World) : Calls Tryz.prog 68 #[.string (bs [61]), .bool false] w fun e w' => e = .returned (.tuple #[.int .u8 0, .bool false]) ∧ w' = w := by
  go_enter Tryz.func68, Tryz.ntmps68
  go_wp2_with (first
    | (go_at_call 89; refine (rnum_7_false _).mono ?_; rintro e w1 ⟨rfl, e1⟩; subst e1)
    | (go_at_call 64; refine (rtk_8_false _).mono ?_; rintro e w1 ⟨rfl, e1⟩; subst e1))
  go_ret2
  exact ⟨rfl, rfl⟩
set_option maxHeartbeats 800000 in
theorem rvb_n8_true (w : World) : Calls Tryz.prog 68 #[.string (bs [60]), .bool true] w fun e w' => e = .returned (.tuple #[.int .u8 10, .bool true]) ∧ w' = w := by
  go_enter Tryz.func68, Tryz.ntmps68
  go_wp2_with (first
    | (go_at_call 89; refine (rnum_8_true _).mono ?_; rintro e w1 ⟨rfl, e1⟩; subst e1)
    | (go_at_call 64; refine (rtk_10_true _).mono ?_; rintro e w1 ⟨rfl, e1⟩; subst e1))
  go_ret2
  exact ⟨rfl, rfl⟩
set_option maxHeartbeats 800000 in
theorem rvb_n8_false (w : World) : Calls Tryz.prog 68 #[.string (bs [60]), .bool false] w fun e w' => e = .returned (.tuple #[.int .u8 0, .bool false]) ∧ w' = w := by
  go_enter Tryz.func68, Tryz.ntmps68
  go_wp2_with (first
    | (go_at_call 89; refine (rnum_8_false _).mono ?_; rintro e w1 ⟨rfl, e1⟩; subst e1)
    | (go_at_call 64; refine (rtk_10_false _).mono ?_; rintro e w1 ⟨rfl, e1⟩; subst e1))
  go_ret2
  exact ⟨rfl, rfl⟩
set_option maxHeartbeats 800000 in
theorem rvb_n9_true (w : World) : Calls Tryz.prog 68 #[.string (bs [60, 61]), .bool true] w fun e w' => e = .returned (.tuple #[.int .u8 11, .bool true]) ∧ w' = w := by
  go_enter Tryz.func68, Tryz.ntmps68
  go_wp2_with (first
    | (go_at_call 89; refine (rnum_9_true _).mono ?_; rintro e w1 ⟨rfl, e1⟩; subst e1)
    | (go_at_call 64; refine (rtk_11_true _).mono ?_; rintro e w1 ⟨rfl, e1⟩; subst e1))
  go_ret2
  exact ⟨rfl, rfl⟩
set_option maxHeartbeats 800000 in
theorem rvb_n9_false (w : World) : Calls Tryz.prog 68 #[.string (bs [60, 61]), .bool false] w fun e w' => e = .returned (.tuple #[.int .u8 0, .bool false]) ∧ w' = w := by
  go_enter Tryz.func68, Tryz.ntmps68
  go_wp2_with (first
    | (go_at_call 89; refine (rnum_9_false _).mono ?_; rintro e w1 ⟨rfl, e1⟩; subst e1)
    | (go_at_call 64; refine (rtk_11_false _).mono ?_; rintro e w1 ⟨rfl, e1⟩; subst e1))
  go_ret2
  exact ⟨rfl, rfl⟩
set_option maxHeartbeats 800000 in
theorem rvb_n10_true (w : World) : Calls Tryz.prog 68 #[.string (bs [62, 61]), .bool true] w fun e w' => e = .returned (.tuple #[.int .u8 12, .bool true]) ∧ w' = w := by
  go_enter Tryz.func68, Tryz.ntmps68
  go_wp2_with (first
    | (go_at_call 89; refine (rnum_10_true _).mono ?_; rintro e w1 ⟨rfl, e1⟩; subst e1)
    | (go_at_call 64; refine (rtk_12_true _).mono ?_; rintro e w1 ⟨rfl, e1⟩; subst e1))
  go_ret2
  exact ⟨rfl, rfl⟩
set_option maxHeartbeats 800000 in
theorem rvb_n10_false (w : World) : Calls Tryz.prog 68 #[.string (bs [62, 61]), .bool false] w fun e w' => e = .returned (.tuple #[.int .u8 0, .bool false]) ∧ w' = w := by
  go_enter Tryz.func68, Tryz.ntmps68
  go_wp2_with (first
    | (go_at_call 89; refine (rnum_10_false _).mono ?_; rintro e w1 ⟨rfl, e1⟩; subst e1)
    | (go_at_call 64; refine (rtk_12_false _).mono ?_; rintro e w1 ⟨rfl, e1⟩; subst e1))
  go_ret2
  exact ⟨rfl, rfl⟩
set_option maxHeartbeats 800000 in
theorem rvb_n11_true (w : World) : Calls Tryz.prog 68 #[.string (bs [62]), .bool true] w fun e w' => e = .returned (.tuple #[.int .u8 13, .bool true]) ∧ w' = w := by
  go_enter Tryz.func68, Tryz.ntmps68
  go_wp2_with (first
    | (go_at_call 89; refine (rnum_11_true _).mono ?_; rintro e w1 ⟨rfl, e1⟩; subst e1)
    | (go_at_call 64; refine (rtk_13_true _).mono ?_; rintro e w1 ⟨rfl, e1⟩; subst e1))
  go_ret2
  exact ⟨rfl, rfl⟩
set_option maxHeartbeats 800000 in
theorem rvb_n11_false (w : World) : Calls Tryz.prog 68 #[.string (bs [62]), .bool false] w fun e w' => e = .returned (.tuple #[.int .u8 0, .bool false]) ∧ w' = w := by
  go_enter Tryz.func68, Tryz.ntmps68
  go_wp2_with (first
    | (go_at_call 89; refine (rnum_11_false _).mono ?_; rintro e w1 ⟨rfl, e1⟩; subst e1)
    | (go_at_call 64; refine (rtk_13_false _).mono ?_; rintro e w1 ⟨rfl, e1⟩; subst e1))
  go_ret2
  exact ⟨rfl, rfl⟩
set_option maxHeartbeats 800000 in
theorem rvb_n12_true (w : World) : Calls Tryz.prog 68 #[.string (bs [97, 110, 100]), .bool true] w fun e w' => e = .returned (.tuple #[.int .u8 14, .bool true]) ∧ w' = w := by
  go_enter Tryz.func68, Tryz.ntmps68
  go_wp2_with (first
    | (go_at_call 89; refine (rnum_12_true _).mono ?_; rintro e w1 ⟨rfl, e1⟩; subst e1)
    | (go_at_call 64; refine (rtk_14_true _).mono ?_; rintro e w1 ⟨rfl, e1⟩; subst e1))
  go_ret2
  exact ⟨rfl, rfl⟩
set_option maxHeartbeats 800000 in
theorem rvb_n12_false (w : World) : Calls Tryz.prog 68 #[.string (bs [97, 110, 100]), .bool false] w fun e w' => e = .returned (.tuple #[.int .u8 0, .bool false]) ∧ w' = w := by
  go_enter Tryz.func68, Tryz.ntmps68
  go_wp2_with (first
    | (go_at_call 89; refine (rnum_12_false _).mono ?_; rintro e w1 ⟨rfl, e1⟩; subst e1)
    | (go_at_call 64; refine (rtk_14_false _).mono ?_; rintro e w1 ⟨rfl, e1⟩; subst e1))
  go_ret2
  exact ⟨rfl, rfl⟩
set_option maxHeartbeats 800000 in
theorem rvb_n13_true (w : World) : Calls Tryz.prog 68 #[.string (bs [111, 114]), .bool true] w fun e w' => e = .returned (.tuple #[.int .u8 15, .bool true]) ∧ w' = w := by
  go_enter Tryz.func68, Tryz.ntmps68
  go_wp2_with (first
    | (go_at_call 89; refine (rnum_13_true _).mono ?_; rintro e w1 ⟨rfl, e1⟩; subst e1)
    | (go_at_call 64; refine (rtk_15_true _).mono ?_; rintro e w1 ⟨rfl, e1⟩; subst e1))
  go_ret2
  exact ⟨rfl, rfl⟩
set_option maxHeartbeats 800000 in
theorem rvb_n13_false (w : World) : Calls Tryz.prog 68 #[.string (bs [111, 114]), .bool false] w fun e w' => e = .returned (.tuple #[.int .u8 0, .bool false]) ∧ w' = w := by
  go_enter Tryz.func68, Tryz.ntmps68
  go_wp2_with (first
    | (go_at_call 89; refine (rnum_13_false _).mono ?_; rintro e w1 ⟨rfl, e1⟩; subst e1)
    | (go_at_call 64; refine (rtk_15_false _).mono ?_; rintro e w1 ⟨rfl, e1⟩; subst e1))
  go_ret2
  exact ⟨rfl, rfl⟩
set_option maxHeartbeats 800000 in
theorem rvb_n14_true (w : World) : Calls Tryz.prog 68 #[.string (bs [112, 111, 119]), .bool true] w fun e w' => e = .returned (.tuple #[.int .u8 17, .bool true]) ∧ w' = w := by
  go_enter Tryz.func68, Tryz.ntmps68
  go_wp2_with (first
    | (go_at_call 89; refine (rnum_14_true _).mono ?_; rintro e w1 ⟨rfl, e1⟩; subst e1)
    | (go_at_call 64; refine (rtk_17_true _).mono ?_; rintro e w1 ⟨rfl, e1⟩; subst e1))
  go_ret2
  exact ⟨rfl, rfl⟩
set_option maxHeartbeats 800000 in
theorem rvb_n14_false (w : World) : Calls Tryz.prog 68 #[.string (bs [112, 111, 119]), .bool false] w fun e w' => e = .returned (.tuple #[.int .u8 0, .bool false]) ∧ w' = w := by
  go_enter Tryz.func68, Tryz.ntmps68
  go_wp2_with (first
    | (go_at_call 89; refine (rnum_14_false _).mono ?_; rintro e w1 ⟨rfl, e1⟩; subst e1)
    | (go_at_call 64; refine (rtk_17_false _).mono ?_; rintro e w1 ⟨rfl, e1⟩; subst e1))
  go_ret2
  exact ⟨rfl, rfl⟩
set_option maxHeartbeats 800000 in
theorem rvb_n15_true (w : World) : Calls Tryz.prog 68 #[.string (bs [126]), .bool true] w fun e w' => e = .returned (.tuple #[.int .u8 9, .bool true]) ∧ w' = w := by
  go_enter Tryz.func68, Tryz.ntmps68
  go_wp2_with (first
    | (go_at_call 89; refine (rnum_15_true _).mono ?_; rintro e w1 ⟨rfl, e1⟩; subst e1)
    | (go_at_call 64; refine (rtk_9_true _).mono ?_; rintro e w1 ⟨rfl, e1⟩; subst e1))
  go_ret2
  exact ⟨rfl, rfl⟩
set_option maxHeartbeats 800000 in
theorem rvb_n15_false (w : World) : Calls Tryz.prog 68 #[.string (bs [126]), .bool false] w fun e w' => e = .returned (.tuple #[.int .u8 16, .bool true]) ∧ w' = w := by
  go_enter Tryz.func68, Tryz.ntmps68
  go_wp2_with (first
    | (go_at_call 89; refine (rnum_15_false _).mono ?_; rintro e w1 ⟨rfl, e1⟩; subst e1)
    | (go_at_call 64; refine (rtk_16_false _).mono ?_; rintro e w1 ⟨rfl, e1⟩; subst e1))
  go_ret2
  exact ⟨rfl, rfl⟩
set_option maxHeartbeats 800000 in
theorem rvb_d0_true (w : World) : Calls Tryz.prog 68 #[.string (bs [114, 104, 111]), .bool true] w fun e w' => e = .returned (.tuple #[.int .u8 37, .bool true]) ∧ w' = w := by
  have c0 : ((bs [114, 104, 111]).toList == [114, 104, 111]) = true := cmpYes rfl
  go_enter Tryz.func68, Tryz.ntmps68
  go_wp2_with (go_at_call 89; refine (rnum_no [114, 104, 111] true _ (by decide)).mono ?_; rintro e w1 ⟨rfl, e1⟩; subst e1)
  go_ret2
  exact ⟨rfl, rfl⟩
set_option maxHeartbeats 800000 in
theorem rvb_d0_false (w : World) : Calls Tryz.prog 68 #[.string (bs [114, 104, 111]), .bool false] w fun e w' => e = .returned (.tuple #[.int .u8 0, .bool false]) ∧ w' = w := by
  have c0 : ((bs [114, 104, 111]).toList == [114, 104, 111]) = true := cmpYes rfl
  go_enter Tryz.func68, Tryz.ntmps68
  go_wp2_with (go_at_call 89; refine (rnum_no [114, 104, 111] false _ (by decide)).mono ?_; rintro e w1 ⟨rfl, e1⟩; subst e1)
  go_ret2
  exact ⟨rfl, rfl⟩
set_option maxHeartbeats 800000 in
theorem rvb_d1_true (w : World) : Calls Tryz.prog 68 #[.string (bs [116, 97, 107, 101]), .bool true] w fun e w' => e = .returned (.tuple #[.int .u8 38, .bool true]) ∧ w' = w := by
  have c0 : ((bs [116, 97, 107, 101]).toList == [114, 104, 111]) = false := cmpNo (by decide)
  have c1 : ((bs [116, 97, 107, 101]).toList == [116, 97, 107, 101]) = true := cmpYes rfl
  go_enter Tryz.func68, Tryz.ntmps68
  go_wp2_with (go_at_call 89; refine (rnum_no [116, 97, 107, 101] true _ (by decide)).mono ?_; rintro e w1 ⟨rfl, e1⟩; subst e1)
  go_ret2
  exact ⟨rfl, rfl⟩
set_option maxHeartbeats 800000 in
theorem rvb_d1_false (w : World) : Calls Tryz.prog 68 #[.string (bs [116, 97, 107, 101]), .bool false] w fun e w' => e = .returned (.tuple #[.int .u8 0, .bool false]) ∧ w' = w := by
  have c0 : ((bs [116, 97, 107, 101]).toList == [114, 104, 111]) = false := cmpNo (by decide)
  have c1 : ((bs [116, 97, 107, 101]).toList == [116, 97, 107, 101]) = true := cmpYes rfl
  go_enter Tryz.func68, Tryz.ntmps68
  go_wp2_with (go_at_call 89; refine (rnum_no [116, 97, 107, 101] false _ (by decide)).mono ?_; rintro e w1 ⟨rfl, e1⟩; subst e1)
  go_ret2
  exact ⟨rfl, rfl⟩
set_option maxHeartbeats 800000 in
theorem rvb_d2_true (w : World) : Calls Tryz.prog 68 #[.string (bs [100, 114, 111, 112]), .bool true] w fun e w' => e = .returned (.tuple #[.int .u8 39, .bool true]) ∧ w' = w := by
  have c0 : ((bs [100, 114, 111, 112]).toList == [114, 104, 111]) = false := cmpNo (by decide)
  have c1 : ((bs [100, 114, 111, 112]).toList == [116, 97, 107, 101]) = false := cmpNo (by decide)
  have c2 : ((bs [100, 114, 111, 112]).toList == [100, 114, 111, 112]) = true := cmpYes rfl
  go_enter Tryz.func68, Tryz.ntmps68
  go_wp2_with (go_at_call 89; refine (rnum_no [100, 114, 111, 112] true _ (by decide)).mono ?_; rintro e w1 ⟨rfl, e1⟩; subst e1)
  go_ret2
  exact ⟨rfl, rfl⟩
set_option maxHeartbeats 800000 in
theorem rvb_d2_false (w : World) : Calls Tryz.prog 68 #[.string (bs [100, 114, 111, 112]), .bool false] w fun e w' => e = .returned (.tuple #[.int .u8 0, .bool false]) ∧ w' = w := by
  have c0 : ((bs [100, 114, 111, 112]).toList == [114, 104, 111]) = false := cmpNo (by decide)
  have c1 : ((bs [100, 114, 111, 112]).toList == [116, 97, 107, 101]) = false := cmpNo (by decide)
  have c2 : ((bs [100, 114, 111, 112]).toList == [100, 114, 111, 112]) = true := cmpYes rfl
  go_enter Tryz.func68, Tryz.ntmps68
  go_wp2_with (go_at_call 89; refine (rnum_no [100, 114, 111, 112] false _ (by decide)).mono ?_; rintro e w1 ⟨rfl, e1⟩; subst e1)
  go_ret2
  exact ⟨rfl, rfl⟩
set_option maxHeartbeats 800000 in
theorem rvb_d3_true (w : World) : Calls Tryz.prog 68 #[.string (bs [99, 97, 116]), .bool true] w fun e w' => e = .returned (.tuple #[.int .u8 40, .bool true]) ∧ w' = w := by
  have c0 : ((bs [99, 97, 116]).toList == [114, 104, 111]) = false := cmpNo (by decide)
  have c1 : ((bs [99, 97, 116]).toList == [116, 97, 107, 101]) = false := cmpNo (by decide)
  have c2 : ((bs [99, 97, 116]).toList == [100, 114, 111, 112]) = false := cmpNo (by decide)
  have c3 : ((bs [99, 97, 116]).toList == [99, 97, 116]) = true := cmpYes rfl
  go_enter Tryz.func68, Tryz.ntmps68
  go_wp2_with (go_at_call 89; refine (rnum_no [99, 97, 116] true _ (by decide)).mono ?_; rintro e w1 ⟨rfl, e1⟩; subst e1)
  go_ret2
  exact ⟨rfl, rfl⟩
set_option maxHeartbeats 800000 in
theorem rvb_d3_false (w : World) : Calls Tryz.prog 68 #[.string (bs [99, 97, 116]), .bool false] w fun e w' => e = .returned (.tuple #[.int .u8 0, .bool false]) ∧ w' = w := by
  have c0 : ((bs [99, 97, 116]).toList == [114, 104, 111]) = false := cmpNo (by decide)
  have c1 : ((bs [99, 97, 116]).toList == [116, 97, 107, 101]) = false := cmpNo (by decide)
  have c2 : ((bs [99, 97, 116]).toList == [100, 114, 111, 112]) = false := cmpNo (by decide)
  have c3 : ((bs [99, 97, 116]).toList == [99, 97, 116]) = true := cmpYes rfl
  go_enter Tryz.func68, Tryz.ntmps68
  go_wp2_with (go_at_call 89; refine (rnum_no [99, 97, 116] false _ (by decide)).mono ?_; rintro e w1 ⟨rfl, e1⟩; subst e1)
  go_ret2
  exact ⟨rfl, rfl⟩
set_option maxHeartbeats 800000 in
theorem rvb_m0_true (w : World) : Calls Tryz.prog 68 #[.string (bs [105, 111, 116, 97]), .bool true] w fun e w' => e = .returned (.tuple #[.int .u8 0, .bool false]) ∧ w' = w := by
  have d0 : ((bs [105, 111, 116, 97]).toList == [114, 104, 111]) = false := cmpNo (by decide)
  have d1 : ((bs [105, 111, 116, 97]).toList == [116, 97, 107, 101]) = false := cmpNo (by decide)
  have d2 : ((bs [105, 111, 116, 97]).toList == [100, 114, 111, 112]) = false := cmpNo (by decide)
  have d3 : ((bs [105, 111, 116, 97]).toList == [99, 97, 116]) = false := cmpNo (by decide)
  have c0 : ((bs [105, 111, 116, 97]).toList == [105, 111, 116, 97]) = true := cmpYes rfl
  go_enter Tryz.func68, Tryz.ntmps68
  go_wp2_with (go_at_call 89; refine (rnum_no [105, 111, 116, 97] true _ (by decide)).mono ?_; rintro e w1 ⟨rfl, e1⟩; subst e1)
  go_ret2
  exact ⟨rfl, rfl⟩
set_option maxHeartbeats 800000 in
theorem rvb_m0_false (w : World) : Calls Tryz.prog 68 #[.string (bs [105, 111, 116, 97]), .bool false] w fun e w' => e = .returned (.tuple #[.int .u8 32, .bool true]) ∧ w' = w := by
  have d0 : ((bs [105, 111, 116, 97]).toList == [114, 104, 111]) = false := cmpNo (by decide)
  have d1 : ((bs [105, 111, 116, 97]).toList == [116, 97, 107, 101]) = false := cmpNo (by decide)
  have d2 : ((bs [105, 111, 116, 97]).toList == [100, 114, 111, 112]) = false := cmpNo (by decide)
  have d3 : ((bs [105, 111, 116, 97]).toList == [99, 97, 116]) = false := cmpNo (by decide)
  have c0 : ((bs [105, 111, 116, 97]).toList == [105, 111, 116, 97]) = true := cmpYes rfl
  go_enter Tryz.func68, Tryz.ntmps68
  go_wp2_with (go_at_call 89; refine (rnum_no [105, 111, 116, 97] false _ (by decide)).mono ?_; rintro e w1 ⟨rfl, e1⟩; subst e1)
  go_ret2
  exact ⟨rfl, rfl⟩
set_option maxHeartbeats 800000 in
theorem rvb_m1_true (w : World) : Calls Tryz.prog 68 #[.string (bs [115, 104, 97, 112, 101]), .bool true] w fun e w' => e = .returned (.tuple #[.int .u8 0, .bool false]) ∧ w' = w := by
  have d0 : ((bs [115, 104, 97, 112, 101]).toList == [114, 104, 111]) = false := cmpNo (by decide)
  have d1 : ((bs [115, 104, 97, 112, 101]).toList == [116, 97, 107, 101]) = false := cmpNo (by decide)
  have d2 : ((bs [115, 104, 97, 112, 101]).toList == [100, 114, 111, 112]) = false := cmpNo (by decide)
  have d3 : ((bs [115, 104, 97, 112, 101]).toList == [99, 97, 116]) = false := cmpNo (by decide)
  have c0 : ((bs [115, 104, 97, 112, 101]).toList == [105, 111, 116, 97]) = false := cmpNo (by decide)
  have c1 : ((bs [115, 104, 97, 112, 101]).toList == [115, 104, 97, 112, 101]) = true := cmpYes rfl
  go_enter Tryz.func68, Tryz.ntmps68
  go_wp2_with (go_at_call 89; refine (rnum_no [115, 104, 97, 112, 101] true _ (by decide)).mono ?_; rintro e w1 ⟨rfl, e1⟩; subst e1)
  go_ret2
  exact ⟨rfl, rfl⟩
set_option maxHeartbeats 800000 in
theorem rvb_m1_false (w : World) : Calls Tryz.prog 68 #[.string (bs [115, 104, 97, 112, 101]), .bool false] w fun e w' => e = .returned (.tuple #[.int .u8 33, .bool true]) ∧ w' = w := by
  have d0 : ((bs [115, 104, 97, 112, 101]).toList == [114, 104, 111]) = false := cmpNo (by decide)
  have d1 : ((bs [115, 104, 97, 112, 101]).toList == [116, 97, 107, 101]) = false := cmpNo (by decide)
  have d2 : ((bs [115, 104, 97, 112, 101]).toList == [100, 114, 111, 112]) = false := cmpNo (by decide)
  have d3 : ((bs [115, 104, 97, 112, 101]).toList == [99, 97, 116]) = false := cmpNo (by decide)
  have c0 : ((bs [115, 104, 97, 112, 101]).toList == [105, 111, 116, 97]) = false := cmpNo (by decide)
  have c1 : ((bs [115, 104, 97, 112, 101]).toList == [115, 104, 97, 112, 101]) = true := cmpYes rfl
  go_enter Tryz.func68, Tryz.ntmps68
  go_wp2_with (go_at_call 89; refine (rnum_no [115, 104, 97, 112, 101] false _ (by decide)).mono ?_; rintro e w1 ⟨rfl, e1⟩; subst e1)
  go_ret2
  exact ⟨rfl, rfl⟩
set_option maxHeartbeats 800000 in
theorem rvb_m2_true (w : World) : Calls Tryz.prog 68 #[.string (bs [114, 97, 118, 101, 108]), .bool true] w fun e w' => e = .returned (.tuple #[.int .u8 0, .bool false]) ∧ w' = w := by
  have d0 : ((bs [114, 97, 118, 101, 108]).toList == [114, 104, 111]) = false := cmpNo (by decide)
  have d1 : ((bs [114, 97, 118, 101, 108]).toList == [116, 97, 107, 101]) = false := cmpNo (by decide)
  have d2 : ((bs [114, 97, 118, 101, 108]).toList == [100, 114, 111, 112]) = false := cmpNo (by decide)
  have d3 : ((bs [114, 97, 118, 101, 108]).toList == [99, 97, 116]) = false := cmpNo (by decide)
  have c0 : ((bs [114, 97, 118, 101, 108]).toList == [105, 111, 116, 97]) = false := cmpNo (by decide)
  have c1 : ((bs [114, 97, 118, 101, 108]).toList == [115, 104, 97, 112, 101]) = false := cmpNo (by decide)
  have c2 : ((bs [114, 97, 118, 101, 108]).toList == [114, 97, 118, 101, 108]) = true := cmpYes rfl
  go_enter Tryz.func68, Tryz.ntmps68
  go_wp2_with (go_at_call 89; refine (rnum_no [114, 97, 118, 101, 108] true _ (by decide)).mono ?_; rintro e w1 ⟨rfl, e1⟩; subst e1)
  go_ret2
  exact ⟨rfl, rfl⟩
set_option maxHeartbeats 800000 in
theorem rvb_m2_false (w : World) : Calls Tryz.prog 68 #[.string (bs [114, 97, 118, 101, 108]), .bool false] w fun e w' => e = .returned (.tuple #[.int .u8 34, .bool true]) ∧ w' = w := by
  have d0 : ((bs [114, 97, 118, 101, 108]).toList == [114, 104, 111]) = false := cmpNo (by decide)
  have d1 : ((bs [114, 97, 118, 101, 108]).toList == [116, 97, 107, 101]) = false := cmpNo (by decide)
  have d2 : ((bs [114, 97, 118, 101, 108]).toList == [100, 114, 111, 112]) = false := cmpNo (by decide)
  have d3 : ((bs [114, 97, 118, 101, 108]).toList == [99, 97, 116]) = false := cmpNo (by decide)
  have c0 : ((bs [114, 97, 118, 101, 108]).toList == [105, 111, 116, 97]) = false := cmpNo (by decide)
  have c1 : ((bs [114, 97, 118, 101, 108]).toList == [115, 104, 97, 112, 101]) = false := cmpNo (by decide)
  have c2 : ((bs [114, 97, 118, 101, 108]).toList == [114, 97, 118, 101, 108]) = true := cmpYes rfl
  go_enter Tryz.func68, Tryz.ntmps68
  go_wp2_with (go_at_call 89; refine (rnum_no [114, 97, 118, 101, 108] false _ (by decide)).mono ?_; rintro e w1 ⟨rfl, e1⟩; subst e1)
  go_ret2
  exact ⟨rfl, rfl⟩
set_option maxHeartbeats 800000 in
theorem rvb_m3_true (w : World) : Calls Tryz.prog 68 #[.string (bs [114, 101, 118]), .bool true] w fun e w' => e = .returned (.tuple #[.int .u8 0, .bool false]) ∧ w' = w := by
  have d0 : ((bs [114, 101, 118]).toList == [114, 104, 111]) = false := cmpNo (by decide)
  have d1 : ((bs [114, 101, 118]).toList == [116, 97, 107, 101]) = false := cmpNo (by decide)
  have d2 : ((bs [114, 101, 118]).toList == [100, 114, 111, 112]) = false := cmpNo (by decide)
  have d3 : ((bs [114, 101, 118]).toList == [99, 97, 116]) = false := cmpNo (by decide)
  have c0 : ((bs [114, 101, 118]).toList == [105, 111, 116, 97]) = false := cmpNo (by decide)
  have c1 : ((bs [114, 101, 118]).toList == [115, 104, 97, 112, 101]) = false := cmpNo (by decide)
  have c2 : ((bs [114, 101, 118]).toList == [114, 97, 118, 101, 108]) = false := cmpNo (by decide)
  have c3 : ((bs [114, 101, 118]).toList == [114, 101, 118]) = true := cmpYes rfl
  go_enter Tryz.func68, Tryz.ntmps68
  go_wp2_with (go_at_call 89; refine (rnum_no [114, 101, 118] true _ (by decide)).mono ?_; rintro e w1 ⟨rfl, e1⟩; subst e1)
  go_ret2
  exact ⟨rfl, rfl⟩
set_option maxHeartbeats 800000 in
theorem rvb_m3_false (w : World) : Calls Tryz.prog 68 #[.string (bs [114, 101, 118]), .bool false] w fun e w' => e = .returned (.tuple #[.int .u8 35, .bool true]) ∧ w' = w := by
  have d0 : ((bs [114, 101, 118]).toList == [114, 104, 111]) = false := cmpNo (by decide)
  have d1 : ((bs [114, 101, 118]).toList == [116, 97, 107, 101]) = false := cmpNo (by decide)
  have d2 : ((bs [114, 101, 118]).toList == [100, 114, 111, 112]) = false := cmpNo (by decide)
  have d3 : ((bs [114, 101, 118]).toList == [99, 97, 116]) = false := cmpNo (by decide)
  have c0 : ((bs [114, 101, 118]).toList == [105, 111, 116, 97]) = false := cmpNo (by decide)
  have c1 : ((bs [114, 101, 118]).toList == [115, 104, 97, 112, 101]) = false := cmpNo (by decide)
  have c2 : ((bs [114, 101, 118]).toList == [114, 97, 118, 101, 108]) = false := cmpNo (by decide)
  have c3 : ((bs [114, 101, 118]).toList == [114, 101, 118]) = true := cmpYes rfl
  go_enter Tryz.func68, Tryz.ntmps68
  go_wp2_with (go_at_call 89; refine (rnum_no [114, 101, 118] false _ (by decide)).mono ?_; rintro e w1 ⟨rfl, e1⟩; subst e1)
  go_ret2
  exact ⟨rfl, rfl⟩
set_option maxHeartbeats 800000 in
theorem rvb_m4_true (w : World) : Calls Tryz.prog 68 #[.string (bs [116, 117, 114, 110]), .bool true] w fun e w' => e = .returned (.tuple #[.int .u8 0, .bool false]) ∧ w' = w := by
  have d0 : ((bs [116, 117, 114, 110]).toList == [114, 104, 111]) = false := cmpNo (by decide)
  have d1 : ((bs [116, 117, 114, 110]).toList == [116, 97, 107, 101]) = false := cmpNo (by decide)
  have d2 : ((bs [116, 117, 114, 110]).toList == [100, 114, 111, 112]) = false := cmpNo (by decide)
  have d3 : ((bs [116, 117, 114, 110]).toList == [99, 97, 116]) = false := cmpNo (by decide)
  have c0 : ((bs [116, 117, 114, 110]).toList == [105, 111, 116, 97]) = false := cmpNo (by decide)
  have c1 : ((bs [116, 117, 114, 110]).toList == [115, 104, 97, 112, 101]) = false := cmpNo (by decide)
  have c2 : ((bs [116, 117, 114, 110]).toList == [114, 97, 118, 101, 108]) = false := cmpNo (by decide)
  have c3 : ((bs [116, 117, 114, 110]).toList == [114, 101, 118]) = false := cmpNo (by decide)
  have c4 : ((bs [116, 117, 114, 110]).toList == [116, 117, 114, 110]) = true := cmpYes rfl
  go_enter Tryz.func68, Tryz.ntmps68
  go_wp2_with (go_at_call 89; refine (rnum_no [116, 117, 114, 110] true _ (by decide)).mono ?_; rintro e w1 ⟨rfl, e1⟩; subst e1)
  go_ret2
  exact ⟨rfl, rfl⟩
set_option maxHeartbeats 800000 in
theorem rvb_m4_false (w : World) : Calls Tryz.prog 68 #[.string (bs [116, 117, 114, 110]), .bool false] w fun e w' => e = .returned (.tuple #[.int .u8 36, .bool true]) ∧ w' = w := by
  have d0 : ((bs [116, 117, 114, 110]).toList == [114, 104, 111]) = false := cmpNo (by decide)
  have d1 : ((bs [116, 117, 114, 110]).toList == [116, 97, 107, 101]) = false := cmpNo (by decide)
  have d2 : ((bs [116, 117, 114, 110]).toList == [100, 114, 111, 112]) = false := cmpNo (by decide)
  have d3 : ((bs [116, 117, 114, 110]).toList == [99, 97, 116]) = false := cmpNo (by decide)
  have c0 : ((bs [116, 117, 114, 110]).toList == [105, 111, 116, 97]) = false := cmpNo (by decide)
  have c1 : ((bs [116, 117, 114, 110]).toList == [115, 104, 97, 112, 101]) = false := cmpNo (by decide)
  have c2 : ((bs [116, 117, 114, 110]).toList == [114, 97, 118, 101, 108]) = false := cmpNo (by decide)
  have c3 : ((bs [116, 117, 114, 110]).toList == [114, 101, 118]) = false := cmpNo (by decide)
  have c4 : ((bs [116, 117, 114, 110]).toList == [116, 117, 114, 110]) = true := cmpYes rfl
  go_enter Tryz.func68, Tryz.ntmps68
  go_wp2_with (go_at_call 89; refine (rnum_no [116, 117, 114, 110] false _ (by decide)).mono ?_; rintro e w1 ⟨rfl, e1⟩; subst e1)
  go_ret2
  exact ⟨rfl, rfl⟩
set_option maxHeartbeats 800000 in
theorem rvb_no_true (l : List UInt8) (w : World) (h : l ≠ [43] ∧ l ≠ [45] ∧ l ≠ [42] ∧ l ≠ [37] ∧ l ≠ [124] ∧ l ≠ [109, 105, 110] ∧ l ≠ [109, 97, 120] ∧ l ≠ [61] ∧ l ≠ [60] ∧ l ≠ [60, 61] ∧ l ≠ [62, 61] ∧ l ≠ [62] ∧ l ≠ [97, 110, 100] ∧ l ≠ [111, 114] ∧ l ≠ [112, 111, 119] ∧ l ≠ [126] ∧ l ≠ [114, 104, 111] ∧ l ≠ [116, 97, 107, 101] ∧ l ≠ [100, 114, 111, 112] ∧ l ≠ [99, 97, 116] ∧ l ≠ [105, 111, 116, 97] ∧ l ≠ [115, 104, 97, 112, 101] ∧ l ≠ [114, 97, 118, 101, 108] ∧ l ≠ [114, 101, 118] ∧ l ≠ [116, 117, 114, 110]) : Calls Tryz.prog 68 #[.string (bs l), .bool true] w fun e w' => e = .returned (.tuple #[.int .u8 0, .bool false]) ∧ w' = w := by
  obtain ⟨h0, h1, h2, h3, h4, h5, h6, h7, h8, h9, h10, h11, h12, h13, h14, h15, h16, h17, h18, h19, h20, h21, h22, h23, h24⟩ := h
  have hno := fun W => rnum_no l true W ⟨h0, h1, h2, h3, h4, h5, h6, h7, h8, h9, h10, h11, h12, h13, h14, h15⟩
  have c16 : ((bs l).toList == [114, 104, 111]) = false := cmpNo h16
  have c17 : ((bs l).toList == [116, 97, 107, 101]) = false := cmpNo h17
  have c18 : ((bs l).toList == [100, 114, 111, 112]) = false := cmpNo h18
  have c19 : ((bs l).toList == [99, 97, 116]) = false := cmpNo h19
  have c20 : ((bs l).toList == [105, 111, 116, 97]) = false := cmpNo h20
  have c21 : ((bs l).toList == [115, 104, 97, 112, 101]) = false := cmpNo h21
  have c22 : ((bs l).toList == [114, 97, 118, 101, 108]) = false := cmpNo h22
  have c23 : ((bs l).toList == [114, 101, 118]) = false := cmpNo h23
  have c24 : ((bs l).toList == [116, 117, 114, 110]) = false := cmpNo h24
  clear h0 h1 h2 h3 h4 h5 h6 h7 h8 h9 h10 h11 h12 h13 h14 h15 h16 h17 h18 h19 h20 h21 h22 h23 h24
  go_enter Tryz.func68, Tryz.ntmps68
  go_wp2_with (go_at_call 89; refine (hno _).mono ?_; rintro e w1 ⟨rfl, e1⟩; subst e1)
  go_ret2
  exact ⟨rfl, rfl⟩
set_option maxHeartbeats 800000 in
theorem rvb_no_false (l : List UInt8) (w : World) (h : l ≠ [43] ∧ l ≠ [45] ∧ l ≠ [42] ∧ l ≠ [37] ∧ l ≠ [124] ∧ l ≠ [109, 105, 110] ∧ l ≠ [109, 97, 120] ∧ l ≠ [61] ∧ l ≠ [60] ∧ l ≠ [60, 61] ∧ l ≠ [62, 61] ∧ l ≠ [62] ∧ l ≠ [97, 110, 100] ∧ l ≠ [111, 114] ∧ l ≠ [112, 111, 119] ∧ l ≠ [126] ∧ l ≠ [114, 104, 111] ∧ l ≠ [116, 97, 107, 101] ∧ l ≠ [100, 114, 111, 112] ∧ l ≠ [99, 97, 116] ∧ l ≠ [105, 111, 116, 97] ∧ l ≠ [115, 104, 97, 112, 101] ∧ l ≠ [114, 97, 118, 101, 108] ∧ l ≠ [114, 101, 118] ∧ l ≠ [116, 117, 114, 110]) : Calls Tryz.prog 68 #[.string (bs l), .bool false] w fun e w' => e = .returned (.tuple #[.int .u8 0, .bool false]) ∧ w' = w := by
  obtain ⟨h0, h1, h2, h3, h4, h5, h6, h7, h8, h9, h10, h11, h12, h13, h14, h15, h16, h17, h18, h19, h20, h21, h22, h23, h24⟩ := h
  have hno := fun W => rnum_no l false W ⟨h0, h1, h2, h3, h4, h5, h6, h7, h8, h9, h10, h11, h12, h13, h14, h15⟩
  have c16 : ((bs l).toList == [114, 104, 111]) = false := cmpNo h16
  have c17 : ((bs l).toList == [116, 97, 107, 101]) = false := cmpNo h17
  have c18 : ((bs l).toList == [100, 114, 111, 112]) = false := cmpNo h18
  have c19 : ((bs l).toList == [99, 97, 116]) = false := cmpNo h19
  have c20 : ((bs l).toList == [105, 111, 116, 97]) = false := cmpNo h20
  have c21 : ((bs l).toList == [115, 104, 97, 112, 101]) = false := cmpNo h21
  have c22 : ((bs l).toList == [114, 97, 118, 101, 108]) = false := cmpNo h22
  have c23 : ((bs l).toList == [114, 101, 118]) = false := cmpNo h23
  have c24 : ((bs l).toList == [116, 117, 114, 110]) = false := cmpNo h24
  clear h0 h1 h2 h3 h4 h5 h6 h7 h8 h9 h10 h11 h12 h13 h14 h15 h16 h17 h18 h19 h20 h21 h22 h23 h24
  go_enter Tryz.func68, Tryz.ntmps68
  go_wp2_with (go_at_call 89; refine (hno _).mono ?_; rintro e w1 ⟨rfl, e1⟩; subst e1)
  go_ret2
  exact ⟨rfl, rfl⟩
theorem rverb_any (l : List UInt8) (two : Bool) (w : World) : Calls Tryz.prog 68 #[.string (bs l), .bool two] w fun e w' => e = .returned (.tuple #[.int .u8 (verbR l two), .bool (verbR l two != 0)]) ∧ w' = w := by
  by_cases h0 : l = [43]
  · subst h0; cases two
    · exact rvb_n0_false w
    · exact rvb_n0_true w
  by_cases h1 : l = [45]
  · subst h1; cases two
    · exact rvb_n1_false w
    · exact rvb_n1_true w
  by_cases h2 : l = [42]
  · subst h2; cases two
    · exact rvb_n2_false w
    · exact rvb_n2_true w
  by_cases h3 : l = [37]
  · subst h3; cases two
    · exact rvb_n3_false w
    · exact rvb_n3_true w
  by_cases h4 : l = [124]
  · subst h4; cases two
    · exact rvb_n4_false w
    · exact rvb_n4_true w
  by_cases h5 : l = [109, 105, 110]
  · subst h5; cases two
    · exact rvb_n5_false w
    · exact rvb_n5_true w
  by_cases h6 : l = [109, 97, 120]
  · subst h6; cases two
    · exact rvb_n6_false w
    · exact rvb_n6_true w
  by_cases h7 : l = [61]
  · subst h7; cases two
    · exact rvb_n7_false w
    · exact rvb_n7_true w
  by_cases h8 : l = [60]
  · subst h8; cases two
    · exact rvb_n8_false w
    · exact rvb_n8_true w
  by_cases h9 : l = [60, 61]
  · subst h9; cases two
    · exact rvb_n9_false w
    · exact rvb_n9_true w
  by_cases h10 : l = [62, 61]
  · subst h10; cases two
    · exact rvb_n10_false w
    · exact rvb_n10_true w
  by_cases h11 : l = [62]
  · subst h11; cases two
    · exact rvb_n11_false w
    · exact rvb_n11_true w
  by_cases h12 : l = [97, 110, 100]
  · subst h12; cases two
    · exact rvb_n12_false w
    · exact rvb_n12_true w
  by_cases h13 : l = [111, 114]
  · subst h13; cases two
    · exact rvb_n13_false w
    · exact rvb_n13_true w
  by_cases h14 : l = [112, 111, 119]
  · subst h14; cases two
    · exact rvb_n14_false w
    · exact rvb_n14_true w
  by_cases h15 : l = [126]
  · subst h15; cases two
    · exact rvb_n15_false w
    · exact rvb_n15_true w
  by_cases h16 : l = [114, 104, 111]
  · subst h16; cases two
    · exact rvb_d0_false w
    · exact rvb_d0_true w
  by_cases h17 : l = [116, 97, 107, 101]
  · subst h17; cases two
    · exact rvb_d1_false w
    · exact rvb_d1_true w
  by_cases h18 : l = [100, 114, 111, 112]
  · subst h18; cases two
    · exact rvb_d2_false w
    · exact rvb_d2_true w
  by_cases h19 : l = [99, 97, 116]
  · subst h19; cases two
    · exact rvb_d3_false w
    · exact rvb_d3_true w
  by_cases h20 : l = [105, 111, 116, 97]
  · subst h20; cases two
    · exact rvb_m0_false w
    · exact rvb_m0_true w
  by_cases h21 : l = [115, 104, 97, 112, 101]
  · subst h21; cases two
    · exact rvb_m1_false w
    · exact rvb_m1_true w
  by_cases h22 : l = [114, 97, 118, 101, 108]
  · subst h22; cases two
    · exact rvb_m2_false w
    · exact rvb_m2_true w
  by_cases h23 : l = [114, 101, 118]
  · subst h23; cases two
    · exact rvb_m3_false w
    · exact rvb_m3_true w
  by_cases h24 : l = [116, 117, 114, 110]
  · subst h24; cases two
    · exact rvb_m4_false w
    · exact rvb_m4_true w
  have hv : vlookIn vtab l = (0, 0) := by
    unfold vtab
    simp only [vlookIn]
    rw [if_neg (fun e => h0 e.symm), if_neg (fun e => h1 e.symm), if_neg (fun e => h2 e.symm), if_neg (fun e => h3 e.symm), if_neg (fun e => h4 e.symm), if_neg (fun e => h5 e.symm), if_neg (fun e => h6 e.symm), if_neg (fun e => h7 e.symm), if_neg (fun e => h15 e.symm), if_neg (fun e => h8 e.symm), if_neg (fun e => h9 e.symm), if_neg (fun e => h10 e.symm), if_neg (fun e => h11 e.symm), if_neg (fun e => h12 e.symm), if_neg (fun e => h13 e.symm), if_neg (fun e => h14 e.symm), if_neg (fun e => h20 e.symm), if_neg (fun e => h21 e.symm), if_neg (fun e => h22 e.symm), if_neg (fun e => h23 e.symm), if_neg (fun e => h24 e.symm), if_neg (fun e => h16 e.symm), if_neg (fun e => h17 e.symm), if_neg (fun e => h18 e.symm), if_neg (fun e => h19 e.symm)]
  cases two
  · have e : verbR l false = 0 := by unfold verbR; rw [hv]; rfl
    rw [e]
    exact rvb_no_false l w ⟨h0, h1, h2, h3, h4, h5, h6, h7, h8, h9, h10, h11, h12, h13, h14, h15, h16, h17, h18, h19, h20, h21, h22, h23, h24⟩
  · have e : verbR l true = 0 := by unfold verbR; rw [hv]; rfl
    rw [e]
    exact rvb_no_true l w ⟨h0, h1, h2, h3, h4, h5, h6, h7, h8, h9, h10, h11, h12, h13, h14, h15, h16, h17, h18, h19, h20, h21, h22, h23, h24⟩
end Go.Proofs.YtbapgdhcbfpdoaaGreatDoor
/- Contracts of the document's Any, Name. -/
namespace Go.Proofs.YtbapgdhcbfpdoaaGreatDoor
open Go.RowKit
theorem rany_any (l : List UInt8) (w : World) : Calls Tryz.prog 45 #[.string (bs l)] w fun e w' => e = .returned (.bool (vb l)) ∧ w' = w := by
  have h1 := fun W => rverb_any l false W
  have h2 := fun W => rverb_any l true W
  have hv : vb l = ((verbR l false != 0) || (verbR l true != 0)) := rfl
  rw [hv]
  obtain ⟨n, hn⟩ : ∃ n, n = verbR l false := ⟨_, rfl⟩
  obtain ⟨m, hm⟩ : ∃ m, m = verbR l true := ⟨_, rfl⟩
  rw [← hn] at h1 ⊢
  rw [← hm] at h2 ⊢
  clear hv hn hm
  obtain ⟨a, ha⟩ : ∃ a, a = (n != 0) := ⟨_, rfl⟩
  obtain ⟨b, hb⟩ : ∃ b, b = (m != 0) := ⟨_, rfl⟩
  rw [← ha] at h1 ⊢
  rw [← hb] at h2 ⊢
  clear ha hb
  have H1 := Lib.hid h1
  have H2 := Lib.hid h2
  clear h1 h2
  cases a <;> cases b <;>
  · go_enter Tryz.func45, Tryz.ntmps45
    go_wp2_with (first
      | (go_at_call 68; with_reducible refine (H1.out _).mono ?_; rintro e w1 ⟨rfl, e1⟩; subst e1)
      | (go_at_call 68; with_reducible refine (H2.out _).mono ?_; rintro e w1 ⟨rfl, e1⟩; subst e1))
    go_ret
    exact ⟨rfl, rfl⟩
theorem spR_word {l : List UInt8} (h : wordB l = true) : spR ⟨1, 0, l, 0⟩ = (l, true) := by
  have h2 := sp_word l
  rw [h] at h2
  by_cases hs : Sp ⟨1, 0, l, 0⟩
  · rw [sp_yes hs]; rfl
  · rw [sp_no hs] at h2; cases h2
theorem spR_none {l : List UInt8} (h : wordB l = false) : spR ⟨1, 0, l, 0⟩ = ([], false) := by
  have h2 := sp_word l
  rw [h] at h2
  by_cases hs : Sp ⟨1, 0, l, 0⟩
  · rw [sp_yes hs] at h2; cases h2
  · exact sp_no hs
theorem rname_any (l : List UInt8) (w : World) (hl : l.length ≤ 140737488355320) : Calls Tryz.prog 30 #[.string (bs l)] w fun e w' => e = .returned (.bool (nameB l)) ∧ Below w.heap.size w w' := by
  have hsp := fun W => rspell_any ⟨1, 0, l, 0⟩ W ⟨⟨by show (-9223372036854775808 : Int) ≤ 0; omega, by show (0 : Int) ≤ 9223372036854775807; omega⟩, hl⟩
  unfold SpRes at hsp
  cases hw : wordB l with
  | false =>
    rw [spR_none hw] at hsp
    have hn : nameB l = false := by unfold nameB; rw [hw]; rfl
    have HS := Lib.hid hsp
    rw [hn]
    clear hsp hw hn
    go_enter Tryz.func30, Tryz.ntmps30
    go_wp2_with (go_at_call 44; refine (HS.out _).mono ?_; rintro e w1 ⟨rfl, b1⟩; have B1 := Lib.hid b1; clear b1)
    go_ret
    exact ⟨rfl, B1.out⟩
  | true =>
    rw [spR_word hw] at hsp
    have hbb := beq_bytes l
    have HS := Lib.hid hsp
    have HA := Lib.hid (fun W => rany_any l W)
    have hn : nameB l = (!vb l && (l != [105, 110]) && (l != [111, 117, 116])) := by unfold nameB; rw [hw, Bool.true_and]
    rw [hn]
    clear hsp hw hn
    cases hv : vb l with
    | true =>
      rw [hv] at HA
      clear hv
      go_enter Tryz.func30, Tryz.ntmps30
      go_wp2_with (first
        | (go_at_call 44; refine (HS.out _).mono ?_; rintro e w1 ⟨rfl, b1⟩; have B1 := Lib.hid b1; clear b1)
        | (go_at_call 45; refine (HA.out _).mono ?_; rintro e w2 ⟨rfl, e2⟩; subst e2))
      go_ret
      exact ⟨rfl, B1.out⟩
    | false =>
      rw [hv] at HA
      clear hv
      by_cases c1 : l = [105, 110]
      · have d1 : ((bs l).toList == [105, 110]) = true := cmpYes c1
        have HR := Lib.hid (show (!false && (l != [105, 110]) && (l != [111, 117, 116])) = false by rw [c1]; rfl)
        clear c1
        go_enter Tryz.func30, Tryz.ntmps30
        go_wp2_with (first
          | (go_at_call 44; refine (HS.out _).mono ?_; rintro e w1 ⟨rfl, b1⟩; have B1 := Lib.hid b1; clear b1)
          | (go_at_call 45; refine (HA.out _).mono ?_; rintro e w2 ⟨rfl, e2⟩; subst e2))
        go_ret
        exact ⟨ret_bool HR.out.symm, B1.out⟩
      · have d1 : ((bs l).toList == [105, 110]) = false := cmpNo c1
        by_cases c2 : l = [111, 117, 116]
        · have d2 : ((bs l).toList == [111, 117, 116]) = true := cmpYes c2
          have HR := Lib.hid (show (!false && (l != [105, 110]) && (l != [111, 117, 116])) = false by rw [c2]; rfl)
          clear c1 c2
          go_enter Tryz.func30, Tryz.ntmps30
          go_wp2_with (first
            | (go_at_call 44; refine (HS.out _).mono ?_; rintro e w1 ⟨rfl, b1⟩; have B1 := Lib.hid b1; clear b1)
            | (go_at_call 45; refine (HA.out _).mono ?_; rintro e w2 ⟨rfl, e2⟩; subst e2))
          go_ret
          exact ⟨ret_bool HR.out.symm, B1.out⟩
        · have d2 : ((bs l).toList == [111, 117, 116]) = false := cmpNo c2
          have HR := Lib.hid (show (!false && (l != [105, 110]) && (l != [111, 117, 116])) = true by simp [c1, c2])
          clear c1 c2
          go_enter Tryz.func30, Tryz.ntmps30
          go_wp2_with (first
            | (go_at_call 44; refine (HS.out _).mono ?_; rintro e w1 ⟨rfl, b1⟩; have B1 := Lib.hid b1; clear b1)
            | (go_at_call 45; refine (HA.out _).mono ?_; rintro e w2 ⟨rfl, e2⟩; subst e2))
          go_ret
          exact ⟨ret_bool HR.out.symm, B1.out⟩
end Go.Proofs.YtbapgdhcbfpdoaaGreatDoor
/- Contracts of the laws' helpers: word.Takes, takes. -/
namespace Go.Proofs.YtbapgdhcbfpdoaaGreatDoor
open Go.RowKit
def itV (x : It) (A : Option Addr) (c : Nat) : Value := .agg #[.int .i64 x.how, .int .i64 x.pl, .int .u8 x.fn, .string (bs x.nm), .slice A x.ns.length c]
end Go.Proofs.YtbapgdhcbfpdoaaGreatDoor
