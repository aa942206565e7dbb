/- The code's writer: a verb's sign. -/
import Derived.Test.YtbapgdhcbfpdoaaDoorZSh
namespace Go.Proofs.YtbapgdhcbfpdoaaDoor
open Go.RowKit
set_option linter.unusedVariables false
theorem fieldV1 (a b : ByteArray) (w : World) : (Instr.field 93 (.agg #[.string a, .string b]) 0).run Tryd.prog w = .ok (.string a) w := by kernel_rfl
theorem fieldV2 (a b : ByteArray) (w : World) : (Instr.field 93 (.agg #[.string a, .string b]) 1).run Tryd.prog w = .ok (.string b) w := by kernel_rfl
theorem markOf_any (how : Int) (w : World) : Calls Tryd.prog 100 #[.int .i64 how] w fun e w' => e = .returned (.string (bs (markW how))) ∧ w' = w := by
  by_cases h5 : how = 5
  · subst h5
    go_enter Tryd.func100, Tryd.ntmps100
    go_wp2
    go_ret
    exact ⟨rfl, rfl⟩
  by_cases h6 : how = 6
  · subst h6
    go_enter Tryd.func100, Tryd.ntmps100
    go_wp2
    go_ret
    exact ⟨rfl, rfl⟩
  by_cases h7 : how = 7
  · subst h7
    go_enter Tryd.func100, Tryd.ntmps100
    go_wp2
    go_ret
    exact ⟨rfl, rfl⟩
  have hm : markW how = [] := by unfold markW; rw [if_neg h5, if_neg h6, if_neg h7]
  have H := Lib.hid hm
  have e5 : (how == 5) = false := by rw [beq_eq_false_iff_ne]; exact h5
  have e6 : (how == 6) = false := by rw [beq_eq_false_iff_ne]; exact h6
  have e7 : (how == 7) = false := by rw [beq_eq_false_iff_ne]; exact h7
  clear hm h5 h6 h7
  go_enter Tryd.func100, Tryd.ntmps100
  go_wp2
  go_ret
  rw [H.out]
  exact ⟨rfl, rfl⟩
/-- What a verb of an item is made of: its text and its mark. -/
def signB (how fn : Int) : Bool := decide (verbW fn (how != 3) ≠ []) && (decide (how = 3) || decide (how = 4) || decide (fn ≤ 17))
def SgYes (w : World) (R M : Nat) (v : Value) (d : Int) (how fn : Int) (e : Ending) (w' : World) : Prop :=
  e = .returned (.tuple #[.string (bs (verbW fn (how != 3) ++ markW how)), .bool (decide (1 + ((markW how).length : Int) ≤ d))]) ∧ WB w' R M v (d - (1 + ((markW how).length : Int))) ∧ Below R w w' ∧ ∀ l, OV w (R + 1) v l → OV w' (R + 1) v l
def SgNo (w : World) (R : Nat) (e : Ending) (w' : World) : Prop := e = .returned (.tuple #[.string ⟨#[]⟩, .bool false]) ∧ Below R w w'
def itW (how pl fn : Int) (nm : List UInt8) (A : Option Addr) (n c : Nat) : Value := .agg #[.int .i64 how, .int .i64 pl, .int .u8 fn, .string (bs nm), .slice A n c]
theorem SgYes.of {w W : World} {R M : Nat} {v : Value} {d how fn : Int} (h : WB w R M v d) (hb : Below w.heap.size w W) : SgYes w R M v d how fn (.returned (.tuple #[.string (bs (verbW fn (how != 3) ++ markW how)), .bool (decide (1 + ((markW how).length : Int) ≤ d))])) (W.setCell ⟨R, 2, none⟩ (.int .i64 (d - (1 + ((markW how).length : Int))))) :=
  ⟨rfl, (h.below hb).left _, (hb.mono (Nat.le_of_lt h.blt)).trans (set_bel _ _ _ _), fun l ho => (ho.below hb).set (by omega)⟩
theorem lookT_lenl (f : Int) : ∀ l : List (Int × List UInt8 × List UInt8), (∀ e ∈ l, e.2.1.length ≤ 5 ∧ e.2.2.length ≤ 5) → (lookT l f).1.length ≤ 5 ∧ (lookT l f).2.length ≤ 5
  | [], _ => ⟨Nat.zero_le _, Nat.zero_le _⟩
  | e :: r, h => by
    unfold lookT
    split
    · exact h e (List.mem_cons_self ..)
    · exact lookT_lenl f r fun x hx => h x (List.mem_cons_of_mem _ hx)
theorem lookT_len (f : Int) : (lookT tabE f).1.length ≤ 5 ∧ (lookT tabE f).2.length ≤ 5 := lookT_lenl f tabE (by decide)
theorem cat_bs (a b : List UInt8) : bs a ++ bs b = bs (a ++ b) := by
  unfold bs; rw [ByteArray.mk_append_mk]
set_option maxRecDepth 100000
set_option maxHeartbeats 3200000 in
theorem sign_3yes (w : World) (R M : Nat) (v : Value) (d : Int) (h : WB w R M v d) (hd : 0 ≤ d ∧ d ≤ 1000000) (pl fn : Int) (nm : List UInt8) (A : Option Addr) (n c : Nat) (hv : verbW fn false ≠ []) :
    Calls Tryd.prog 94 #[.pointer (some ⟨R, 0, none⟩), itW 3 pl fn nm A n c] w (SgYes w R M v d 3 fn) := by
  obtain ⟨c0, c1, c2, f1, f2⟩ := h.cells
  have hlt := h.blt
  have hML := h.lt
  have HS := Lib.hid h
  have HD := Lib.hid hd
  obtain ⟨T, hT⟩ : ∃ T, T = lookT tabE fn := ⟨_, rfl⟩
  have hv1 : verbW fn false = T.1 := by rw [lookT_verb, hT]; rfl
  rw [hv1] at hv
  have HV := Lib.hid hv1
  have hbe : ((bs T.1).toList == []) = false := by rw [cmpB]; exact decide_eq_false hv
  have hz : (bs T.1).size ≤ 5 := by rw [bs_size, hT]; exact (lookT_len fn).1
  have hlk : ∀ W : World, W.heap[M]? = some (tabM 26) → (Instr.lookup 75 (.map (some M)) (.int .u8 fn) false).run Tryd.prog W = .ok (.agg #[.string (bs T.1), .string (bs T.2)]) W := fun W hW => by rw [hT]; exact look_verb W M fn hW
  obtain ⟨W, hW⟩ : ∃ W, W = w.alloc (.cells #[.int .i64 3, .int .i64 pl, .int .u8 fn, .string (bs nm), .slice A n c] 83) := ⟨_, rfl⟩
  have hWb : Below w.heap.size w W := by rw [hW]; exact (Below.refl _ _).alloc (Nat.le_refl _) _
  have hWn : W.heap[w.heap.size]? = some (.cells #[.int .i64 3, .int .i64 pl, .int .u8 fn, .string (bs nm), .slice A n c] 83 (0, 0)) := by rw [hW]; exact heap_alloc_new w _
  have b0 := fun j => (show (W.drewN j).cell? ⟨w.heap.size, 0, none⟩ = some (.int .i64 3) by rw [show (W.drewN j).cell? ⟨w.heap.size, 0, none⟩ = W.cell? ⟨w.heap.size, 0, none⟩ from rfl, cell_of_row _ _ _ _ _ _ hWn]; rfl)
  have b2 := fun j => (show (W.drewN j).cell? ⟨w.heap.size, 2, none⟩ = some (.int .u8 fn) by rw [show (W.drewN j).cell? ⟨w.heap.size, 2, none⟩ = W.cell? ⟨w.heap.size, 2, none⟩ from rfl, cell_of_row _ _ _ _ _ _ hWn]; rfl)
  have HW := Lib.hid hW
  clear h hv hv1 hT hW hWn
  unfold itW
  go_enter Tryd.func94, Tryd.ntmps94
  go_wp2
  rw [← HW.out]
  have WB2 := HS.out.below hWb
  clear c0 c1 c2 f1 f2
  obtain ⟨c0, c1, c2, f1, f2⟩ := WB2.cells
  have r0 := fun j => (show (W.drewN j).cell? ⟨R, 0, none⟩ = some (.map (some M)) from c0)
  have l1 := fun j => hlk (W.drewN j) WB2.tab
  have g1 := fun w => fieldV1 (bs T.1) (bs T.2) w
  have g2 := fun w => fieldV2 (bs T.1) (bs T.2) w
  have HB := Lib.hid hWb
  clear WB2 hlk c0 c1 c2 f1 f2 hWb hd
  go_quiet (fail)
  go_wp2
  go_quiet (fail)
  go_wp2_with fail
  refine (markOf_any 3 _).mono ?_
  rintro e w2 ⟨rfl, rfl⟩
  have hm : bs (markW 3) = ⟨#[]⟩ := rfl
  rw [hm]
  clear r0 l1 g1 g2
  go_wp2_with fail
  refine (spend_any _ R M v d _ (HS.out.below (by first | exact HB.out | exact below_drewN HB.out HB.out.size)) HD.out (by decide)).mono ?_
  rintro e w3 ⟨rfl, rfl⟩
  go_wp2
  refine bodyPost_ret (v := .tuple #[.string (bs (verbW fn false ++ markW 3)), .bool (decide (1 + ((markW 3).length : Int) ≤ d))]) (R := SgYes w R M v d 3 fn) (by rw [HV.out, ← cat_bs, hm]; simp [results, Tryd.results94, go_sem, markW]) rfl ?_
  exact SgYes.of HS.out (by first | exact HB.out | exact below_drewN HB.out HB.out.size)
set_option maxHeartbeats 3200000 in
theorem sign_3no (w : World) (R M : Nat) (v : Value) (d : Int) (h : WB w R M v d) (hd : 0 ≤ d ∧ d ≤ 1000000) (pl fn : Int) (nm : List UInt8) (A : Option Addr) (n c : Nat) (hv : verbW fn false = []) :
    Calls Tryd.prog 94 #[.pointer (some ⟨R, 0, none⟩), itW 3 pl fn nm A n c] w (SgNo w R) := by
  obtain ⟨c0, c1, c2, f1, f2⟩ := h.cells
  have hlt := h.blt
  have hML := h.lt
  have HS := Lib.hid h
  have HD := Lib.hid hd
  obtain ⟨T, hT⟩ : ∃ T, T = lookT tabE fn := ⟨_, rfl⟩
  have hv1 : verbW fn false = T.1 := by rw [lookT_verb, hT]; rfl
  rw [hv1] at hv
  have HV := Lib.hid hv1
  have hbe : ((bs T.1).toList == []) = true := by rw [cmpB]; exact decide_eq_true hv
  have hlk : ∀ W : World, W.heap[M]? = some (tabM 26) → (Instr.lookup 75 (.map (some M)) (.int .u8 fn) false).run Tryd.prog W = .ok (.agg #[.string (bs T.1), .string (bs T.2)]) W := fun W hW => by rw [hT]; exact look_verb W M fn hW
  obtain ⟨W, hW⟩ : ∃ W, W = w.alloc (.cells #[.int .i64 3, .int .i64 pl, .int .u8 fn, .string (bs nm), .slice A n c] 83) := ⟨_, rfl⟩
  have hWb : Below w.heap.size w W := by rw [hW]; exact (Below.refl _ _).alloc (Nat.le_refl _) _
  have hWn : W.heap[w.heap.size]? = some (.cells #[.int .i64 3, .int .i64 pl, .int .u8 fn, .string (bs nm), .slice A n c] 83 (0, 0)) := by rw [hW]; exact heap_alloc_new w _
  have b0 := fun j => (show (W.drewN j).cell? ⟨w.heap.size, 0, none⟩ = some (.int .i64 3) by rw [show (W.drewN j).cell? ⟨w.heap.size, 0, none⟩ = W.cell? ⟨w.heap.size, 0, none⟩ from rfl, cell_of_row _ _ _ _ _ _ hWn]; rfl)
  have b2 := fun j => (show (W.drewN j).cell? ⟨w.heap.size, 2, none⟩ = some (.int .u8 fn) by rw [show (W.drewN j).cell? ⟨w.heap.size, 2, none⟩ = W.cell? ⟨w.heap.size, 2, none⟩ from rfl, cell_of_row _ _ _ _ _ _ hWn]; rfl)
  have HW := Lib.hid hW
  clear h hv hv1 hT hW hWn
  unfold itW
  go_enter Tryd.func94, Tryd.ntmps94
  go_wp2
  rw [← HW.out]
  have WB2 := HS.out.below hWb
  clear c0 c1 c2 f1 f2
  obtain ⟨c0, c1, c2, f1, f2⟩ := WB2.cells
  have r0 := fun j => (show (W.drewN j).cell? ⟨R, 0, none⟩ = some (.map (some M)) from c0)
  have l1 := fun j => hlk (W.drewN j) WB2.tab
  have g1 := fun w => fieldV1 (bs T.1) (bs T.2) w
  have g2 := fun w => fieldV2 (bs T.1) (bs T.2) w
  have HB := Lib.hid hWb
  clear WB2 hlk c0 c1 c2 f1 f2 hWb hd
  go_quiet (fail)
  go_wp2
  go_quiet (fail)
  go_wp2_with fail
  refine (markOf_any 3 _).mono ?_
  rintro e w2 ⟨rfl, rfl⟩
  have hm : bs (markW 3) = ⟨#[]⟩ := rfl
  rw [hm]
  clear r0 l1 g1 g2
  go_wp2
  refine bodyPost_ret (v := .tuple #[.string ⟨#[]⟩, .bool false]) (R := SgNo w R) (by simp [results, Tryd.results94, go_sem]) rfl ?_
  exact ⟨rfl, (show Below w.heap.size w _ by first | exact HB.out | exact below_drewN HB.out HB.out.size).mono (Nat.le_of_lt hlt)⟩
set_option maxHeartbeats 3200000 in
theorem sign_4yes (w : World) (R M : Nat) (v : Value) (d : Int) (h : WB w R M v d) (hd : 0 ≤ d ∧ d ≤ 1000000) (pl fn : Int) (nm : List UInt8) (A : Option Addr) (n c : Nat) (hv : verbW fn true ≠ []) :
    Calls Tryd.prog 94 #[.pointer (some ⟨R, 0, none⟩), itW 4 pl fn nm A n c] w (SgYes w R M v d 4 fn) := by
  obtain ⟨c0, c1, c2, f1, f2⟩ := h.cells
  have hlt := h.blt
  have hML := h.lt
  have HS := Lib.hid h
  have HD := Lib.hid hd
  obtain ⟨T, hT⟩ : ∃ T, T = lookT tabE fn := ⟨_, rfl⟩
  have hv1 : verbW fn true = T.2 := by rw [lookT_verb, hT]; rfl
  rw [hv1] at hv
  have HV := Lib.hid hv1
  have hbe : ((bs T.2).toList == []) = false := by rw [cmpB]; exact decide_eq_false hv
  have hz : (bs T.2).size ≤ 5 := by rw [bs_size, hT]; exact (lookT_len fn).2
  have hlk : ∀ W : World, W.heap[M]? = some (tabM 26) → (Instr.lookup 75 (.map (some M)) (.int .u8 fn) false).run Tryd.prog W = .ok (.agg #[.string (bs T.1), .string (bs T.2)]) W := fun W hW => by rw [hT]; exact look_verb W M fn hW
  obtain ⟨W, hW⟩ : ∃ W, W = w.alloc (.cells #[.int .i64 4, .int .i64 pl, .int .u8 fn, .string (bs nm), .slice A n c] 83) := ⟨_, rfl⟩
  have hWb : Below w.heap.size w W := by rw [hW]; exact (Below.refl _ _).alloc (Nat.le_refl _) _
  have hWn : W.heap[w.heap.size]? = some (.cells #[.int .i64 4, .int .i64 pl, .int .u8 fn, .string (bs nm), .slice A n c] 83 (0, 0)) := by rw [hW]; exact heap_alloc_new w _
  have b0 := fun j => (show (W.drewN j).cell? ⟨w.heap.size, 0, none⟩ = some (.int .i64 4) by rw [show (W.drewN j).cell? ⟨w.heap.size, 0, none⟩ = W.cell? ⟨w.heap.size, 0, none⟩ from rfl, cell_of_row _ _ _ _ _ _ hWn]; rfl)
  have b2 := fun j => (show (W.drewN j).cell? ⟨w.heap.size, 2, none⟩ = some (.int .u8 fn) by rw [show (W.drewN j).cell? ⟨w.heap.size, 2, none⟩ = W.cell? ⟨w.heap.size, 2, none⟩ from rfl, cell_of_row _ _ _ _ _ _ hWn]; rfl)
  have HW := Lib.hid hW
  clear h hv hv1 hT hW hWn
  unfold itW
  go_enter Tryd.func94, Tryd.ntmps94
  go_wp2
  rw [← HW.out]
  have WB2 := HS.out.below hWb
  clear c0 c1 c2 f1 f2
  obtain ⟨c0, c1, c2, f1, f2⟩ := WB2.cells
  have r0 := fun j => (show (W.drewN j).cell? ⟨R, 0, none⟩ = some (.map (some M)) from c0)
  have l1 := fun j => hlk (W.drewN j) WB2.tab
  have g1 := fun w => fieldV1 (bs T.1) (bs T.2) w
  have g2 := fun w => fieldV2 (bs T.1) (bs T.2) w
  have HB := Lib.hid hWb
  clear WB2 hlk c0 c1 c2 f1 f2 hWb hd
  go_quiet (fail)
  go_wp2_with fail
  refine (markOf_any 4 _).mono ?_
  rintro e w2 ⟨rfl, rfl⟩
  have hm : bs (markW 4) = ⟨#[]⟩ := rfl
  rw [hm]
  clear r0 l1 g1 g2
  go_wp2_with fail
  refine (spend_any _ R M v d _ (HS.out.below (by first | exact HB.out | exact below_drewN HB.out HB.out.size)) HD.out (by decide)).mono ?_
  rintro e w3 ⟨rfl, rfl⟩
  go_wp2
  refine bodyPost_ret (v := .tuple #[.string (bs (verbW fn true ++ markW 4)), .bool (decide (1 + ((markW 4).length : Int) ≤ d))]) (R := SgYes w R M v d 4 fn) (by rw [HV.out, ← cat_bs, hm]; simp [results, Tryd.results94, go_sem, markW]) rfl ?_
  exact SgYes.of HS.out (by first | exact HB.out | exact below_drewN HB.out HB.out.size)
set_option maxHeartbeats 3200000 in
theorem sign_4no (w : World) (R M : Nat) (v : Value) (d : Int) (h : WB w R M v d) (hd : 0 ≤ d ∧ d ≤ 1000000) (pl fn : Int) (nm : List UInt8) (A : Option Addr) (n c : Nat) (hv : verbW fn true = []) :
    Calls Tryd.prog 94 #[.pointer (some ⟨R, 0, none⟩), itW 4 pl fn nm A n c] w (SgNo w R) := by
  obtain ⟨c0, c1, c2, f1, f2⟩ := h.cells
  have hlt := h.blt
  have hML := h.lt
  have HS := Lib.hid h
  have HD := Lib.hid hd
  obtain ⟨T, hT⟩ : ∃ T, T = lookT tabE fn := ⟨_, rfl⟩
  have hv1 : verbW fn true = T.2 := by rw [lookT_verb, hT]; rfl
  rw [hv1] at hv
  have HV := Lib.hid hv1
  have hbe : ((bs T.2).toList == []) = true := by rw [cmpB]; exact decide_eq_true hv
  have hlk : ∀ W : World, W.heap[M]? = some (tabM 26) → (Instr.lookup 75 (.map (some M)) (.int .u8 fn) false).run Tryd.prog W = .ok (.agg #[.string (bs T.1), .string (bs T.2)]) W := fun W hW => by rw [hT]; exact look_verb W M fn hW
  obtain ⟨W, hW⟩ : ∃ W, W = w.alloc (.cells #[.int .i64 4, .int .i64 pl, .int .u8 fn, .string (bs nm), .slice A n c] 83) := ⟨_, rfl⟩
  have hWb : Below w.heap.size w W := by rw [hW]; exact (Below.refl _ _).alloc (Nat.le_refl _) _
  have hWn : W.heap[w.heap.size]? = some (.cells #[.int .i64 4, .int .i64 pl, .int .u8 fn, .string (bs nm), .slice A n c] 83 (0, 0)) := by rw [hW]; exact heap_alloc_new w _
  have b0 := fun j => (show (W.drewN j).cell? ⟨w.heap.size, 0, none⟩ = some (.int .i64 4) by rw [show (W.drewN j).cell? ⟨w.heap.size, 0, none⟩ = W.cell? ⟨w.heap.size, 0, none⟩ from rfl, cell_of_row _ _ _ _ _ _ hWn]; rfl)
  have b2 := fun j => (show (W.drewN j).cell? ⟨w.heap.size, 2, none⟩ = some (.int .u8 fn) by rw [show (W.drewN j).cell? ⟨w.heap.size, 2, none⟩ = W.cell? ⟨w.heap.size, 2, none⟩ from rfl, cell_of_row _ _ _ _ _ _ hWn]; rfl)
  have HW := Lib.hid hW
  clear h hv hv1 hT hW hWn
  unfold itW
  go_enter Tryd.func94, Tryd.ntmps94
  go_wp2
  rw [← HW.out]
  have WB2 := HS.out.below hWb
  clear c0 c1 c2 f1 f2
  obtain ⟨c0, c1, c2, f1, f2⟩ := WB2.cells
  have r0 := fun j => (show (W.drewN j).cell? ⟨R, 0, none⟩ = some (.map (some M)) from c0)
  have l1 := fun j => hlk (W.drewN j) WB2.tab
  have g1 := fun w => fieldV1 (bs T.1) (bs T.2) w
  have g2 := fun w => fieldV2 (bs T.1) (bs T.2) w
  have HB := Lib.hid hWb
  clear WB2 hlk c0 c1 c2 f1 f2 hWb hd
  go_quiet (fail)
  go_wp2_with fail
  refine (markOf_any 4 _).mono ?_
  rintro e w2 ⟨rfl, rfl⟩
  have hm : bs (markW 4) = ⟨#[]⟩ := rfl
  rw [hm]
  clear r0 l1 g1 g2
  go_wp2
  refine bodyPost_ret (v := .tuple #[.string ⟨#[]⟩, .bool false]) (R := SgNo w R) (by simp [results, Tryd.results94, go_sem]) rfl ?_
  exact ⟨rfl, (show Below w.heap.size w _ by first | exact HB.out | exact below_drewN HB.out HB.out.size).mono (Nat.le_of_lt hlt)⟩
set_option maxHeartbeats 3200000 in
theorem sign_5yes (w : World) (R M : Nat) (v : Value) (d : Int) (h : WB w R M v d) (hd : 0 ≤ d ∧ d ≤ 1000000) (pl fn : Int) (nm : List UInt8) (A : Option Addr) (n c : Nat) (hv : verbW fn true ≠ []) (hf : fn ≤ 17) :
    Calls Tryd.prog 94 #[.pointer (some ⟨R, 0, none⟩), itW 5 pl fn nm A n c] w (SgYes w R M v d 5 fn) := by
  obtain ⟨c0, c1, c2, f1, f2⟩ := h.cells
  have hlt := h.blt
  have hML := h.lt
  have HS := Lib.hid h
  have HD := Lib.hid hd
  obtain ⟨T, hT⟩ : ∃ T, T = lookT tabE fn := ⟨_, rfl⟩
  have hv1 : verbW fn true = T.2 := by rw [lookT_verb, hT]; rfl
  rw [hv1] at hv
  have HV := Lib.hid hv1
  have hbe : ((bs T.2).toList == []) = false := by rw [cmpB]; exact decide_eq_false hv
  have hz : (bs T.2).size ≤ 5 := by rw [bs_size, hT]; exact (lookT_len fn).2
  have hf1 : decide (17 < fn) = false := decide_eq_false (by omega)
  have hlk : ∀ W : World, W.heap[M]? = some (tabM 26) → (Instr.lookup 75 (.map (some M)) (.int .u8 fn) false).run Tryd.prog W = .ok (.agg #[.string (bs T.1), .string (bs T.2)]) W := fun W hW => by rw [hT]; exact look_verb W M fn hW
  obtain ⟨W, hW⟩ : ∃ W, W = w.alloc (.cells #[.int .i64 5, .int .i64 pl, .int .u8 fn, .string (bs nm), .slice A n c] 83) := ⟨_, rfl⟩
  have hWb : Below w.heap.size w W := by rw [hW]; exact (Below.refl _ _).alloc (Nat.le_refl _) _
  have hWn : W.heap[w.heap.size]? = some (.cells #[.int .i64 5, .int .i64 pl, .int .u8 fn, .string (bs nm), .slice A n c] 83 (0, 0)) := by rw [hW]; exact heap_alloc_new w _
  have b0 := fun j => (show (W.drewN j).cell? ⟨w.heap.size, 0, none⟩ = some (.int .i64 5) by rw [show (W.drewN j).cell? ⟨w.heap.size, 0, none⟩ = W.cell? ⟨w.heap.size, 0, none⟩ from rfl, cell_of_row _ _ _ _ _ _ hWn]; rfl)
  have b2 := fun j => (show (W.drewN j).cell? ⟨w.heap.size, 2, none⟩ = some (.int .u8 fn) by rw [show (W.drewN j).cell? ⟨w.heap.size, 2, none⟩ = W.cell? ⟨w.heap.size, 2, none⟩ from rfl, cell_of_row _ _ _ _ _ _ hWn]; rfl)
  have HW := Lib.hid hW
  clear h hv hv1 hT hW hWn hf
  unfold itW
  go_enter Tryd.func94, Tryd.ntmps94
  go_wp2
  rw [← HW.out]
  have WB2 := HS.out.below hWb
  clear c0 c1 c2 f1 f2
  obtain ⟨c0, c1, c2, f1, f2⟩ := WB2.cells
  have r0 := fun j => (show (W.drewN j).cell? ⟨R, 0, none⟩ = some (.map (some M)) from c0)
  have l1 := fun j => hlk (W.drewN j) WB2.tab
  have g1 := fun w => fieldV1 (bs T.1) (bs T.2) w
  have g2 := fun w => fieldV2 (bs T.1) (bs T.2) w
  have HB := Lib.hid hWb
  clear WB2 hlk c0 c1 c2 f1 f2 hWb hd
  go_quiet (fail)
  go_wp2_with fail
  refine (markOf_any 5 _).mono ?_
  rintro e w2 ⟨rfl, rfl⟩
  have hm : bs (markW 5) = ⟨#[47]⟩ := rfl
  rw [hm]
  clear r0 l1 g1 g2
  go_wp2_with fail
  refine (spend_any _ R M v d _ (HS.out.below (by first | exact HB.out | exact below_drewN HB.out HB.out.size)) HD.out (by decide)).mono ?_
  rintro e w3 ⟨rfl, rfl⟩
  go_wp2
  refine bodyPost_ret (v := .tuple #[.string (bs (verbW fn true ++ markW 5)), .bool (decide (1 + ((markW 5).length : Int) ≤ d))]) (R := SgYes w R M v d 5 fn) (by rw [HV.out, ← cat_bs, hm]; simp [results, Tryd.results94, go_sem, markW]) rfl ?_
  exact SgYes.of HS.out (by first | exact HB.out | exact below_drewN HB.out HB.out.size)
set_option maxHeartbeats 3200000 in
theorem sign_5no (w : World) (R M : Nat) (v : Value) (d : Int) (h : WB w R M v d) (hd : 0 ≤ d ∧ d ≤ 1000000) (pl fn : Int) (nm : List UInt8) (A : Option Addr) (n c : Nat) (hv : verbW fn true = []) :
    Calls Tryd.prog 94 #[.pointer (some ⟨R, 0, none⟩), itW 5 pl fn nm A n c] w (SgNo w R) := by
  obtain ⟨c0, c1, c2, f1, f2⟩ := h.cells
  have hlt := h.blt
  have hML := h.lt
  have HS := Lib.hid h
  have HD := Lib.hid hd
  obtain ⟨T, hT⟩ : ∃ T, T = lookT tabE fn := ⟨_, rfl⟩
  have hv1 : verbW fn true = T.2 := by rw [lookT_verb, hT]; rfl
  rw [hv1] at hv
  have HV := Lib.hid hv1
  have hbe : ((bs T.2).toList == []) = true := by rw [cmpB]; exact decide_eq_true hv
  have hlk : ∀ W : World, W.heap[M]? = some (tabM 26) → (Instr.lookup 75 (.map (some M)) (.int .u8 fn) false).run Tryd.prog W = .ok (.agg #[.string (bs T.1), .string (bs T.2)]) W := fun W hW => by rw [hT]; exact look_verb W M fn hW
  obtain ⟨W, hW⟩ : ∃ W, W = w.alloc (.cells #[.int .i64 5, .int .i64 pl, .int .u8 fn, .string (bs nm), .slice A n c] 83) := ⟨_, rfl⟩
  have hWb : Below w.heap.size w W := by rw [hW]; exact (Below.refl _ _).alloc (Nat.le_refl _) _
  have hWn : W.heap[w.heap.size]? = some (.cells #[.int .i64 5, .int .i64 pl, .int .u8 fn, .string (bs nm), .slice A n c] 83 (0, 0)) := by rw [hW]; exact heap_alloc_new w _
  have b0 := fun j => (show (W.drewN j).cell? ⟨w.heap.size, 0, none⟩ = some (.int .i64 5) by rw [show (W.drewN j).cell? ⟨w.heap.size, 0, none⟩ = W.cell? ⟨w.heap.size, 0, none⟩ from rfl, cell_of_row _ _ _ _ _ _ hWn]; rfl)
  have b2 := fun j => (show (W.drewN j).cell? ⟨w.heap.size, 2, none⟩ = some (.int .u8 fn) by rw [show (W.drewN j).cell? ⟨w.heap.size, 2, none⟩ = W.cell? ⟨w.heap.size, 2, none⟩ from rfl, cell_of_row _ _ _ _ _ _ hWn]; rfl)
  have HW := Lib.hid hW
  clear h hv hv1 hT hW hWn
  unfold itW
  go_enter Tryd.func94, Tryd.ntmps94
  go_wp2
  rw [← HW.out]
  have WB2 := HS.out.below hWb
  clear c0 c1 c2 f1 f2
  obtain ⟨c0, c1, c2, f1, f2⟩ := WB2.cells
  have r0 := fun j => (show (W.drewN j).cell? ⟨R, 0, none⟩ = some (.map (some M)) from c0)
  have l1 := fun j => hlk (W.drewN j) WB2.tab
  have g1 := fun w => fieldV1 (bs T.1) (bs T.2) w
  have g2 := fun w => fieldV2 (bs T.1) (bs T.2) w
  have HB := Lib.hid hWb
  clear WB2 hlk c0 c1 c2 f1 f2 hWb hd
  go_quiet (fail)
  go_wp2_with fail
  refine (markOf_any 5 _).mono ?_
  rintro e w2 ⟨rfl, rfl⟩
  have hm : bs (markW 5) = ⟨#[47]⟩ := rfl
  rw [hm]
  clear r0 l1 g1 g2
  go_wp2
  refine bodyPost_ret (v := .tuple #[.string ⟨#[]⟩, .bool false]) (R := SgNo w R) (by simp [results, Tryd.results94, go_sem]) rfl ?_
  exact ⟨rfl, (show Below w.heap.size w _ by first | exact HB.out | exact below_drewN HB.out HB.out.size).mono (Nat.le_of_lt hlt)⟩
set_option maxHeartbeats 3200000 in
theorem sign_5far (w : World) (R M : Nat) (v : Value) (d : Int) (h : WB w R M v d) (hd : 0 ≤ d ∧ d ≤ 1000000) (pl fn : Int) (nm : List UInt8) (A : Option Addr) (n c : Nat) (hv : verbW fn true ≠ []) (hf : ¬ fn ≤ 17) :
    Calls Tryd.prog 94 #[.pointer (some ⟨R, 0, none⟩), itW 5 pl fn nm A n c] w (SgNo w R) := by
  obtain ⟨c0, c1, c2, f1, f2⟩ := h.cells
  have hlt := h.blt
  have hML := h.lt
  have HS := Lib.hid h
  have HD := Lib.hid hd
  obtain ⟨T, hT⟩ : ∃ T, T = lookT tabE fn := ⟨_, rfl⟩
  have hv1 : verbW fn true = T.2 := by rw [lookT_verb, hT]; rfl
  rw [hv1] at hv
  have HV := Lib.hid hv1
  have hbe : ((bs T.2).toList == []) = false := by rw [cmpB]; exact decide_eq_false hv
  have hz : (bs T.2).size ≤ 5 := by rw [bs_size, hT]; exact (lookT_len fn).2
  have hf1 : decide (17 < fn) = true := decide_eq_true (by omega)
  have hlk : ∀ W : World, W.heap[M]? = some (tabM 26) → (Instr.lookup 75 (.map (some M)) (.int .u8 fn) false).run Tryd.prog W = .ok (.agg #[.string (bs T.1), .string (bs T.2)]) W := fun W hW => by rw [hT]; exact look_verb W M fn hW
  obtain ⟨W, hW⟩ : ∃ W, W = w.alloc (.cells #[.int .i64 5, .int .i64 pl, .int .u8 fn, .string (bs nm), .slice A n c] 83) := ⟨_, rfl⟩
  have hWb : Below w.heap.size w W := by rw [hW]; exact (Below.refl _ _).alloc (Nat.le_refl _) _
  have hWn : W.heap[w.heap.size]? = some (.cells #[.int .i64 5, .int .i64 pl, .int .u8 fn, .string (bs nm), .slice A n c] 83 (0, 0)) := by rw [hW]; exact heap_alloc_new w _
  have b0 := fun j => (show (W.drewN j).cell? ⟨w.heap.size, 0, none⟩ = some (.int .i64 5) by rw [show (W.drewN j).cell? ⟨w.heap.size, 0, none⟩ = W.cell? ⟨w.heap.size, 0, none⟩ from rfl, cell_of_row _ _ _ _ _ _ hWn]; rfl)
  have b2 := fun j => (show (W.drewN j).cell? ⟨w.heap.size, 2, none⟩ = some (.int .u8 fn) by rw [show (W.drewN j).cell? ⟨w.heap.size, 2, none⟩ = W.cell? ⟨w.heap.size, 2, none⟩ from rfl, cell_of_row _ _ _ _ _ _ hWn]; rfl)
  have HW := Lib.hid hW
  clear h hv hv1 hT hW hWn hf
  unfold itW
  go_enter Tryd.func94, Tryd.ntmps94
  go_wp2
  rw [← HW.out]
  have WB2 := HS.out.below hWb
  clear c0 c1 c2 f1 f2
  obtain ⟨c0, c1, c2, f1, f2⟩ := WB2.cells
  have r0 := fun j => (show (W.drewN j).cell? ⟨R, 0, none⟩ = some (.map (some M)) from c0)
  have l1 := fun j => hlk (W.drewN j) WB2.tab
  have g1 := fun w => fieldV1 (bs T.1) (bs T.2) w
  have g2 := fun w => fieldV2 (bs T.1) (bs T.2) w
  have HB := Lib.hid hWb
  clear WB2 hlk c0 c1 c2 f1 f2 hWb hd
  go_quiet (fail)
  go_wp2_with fail
  refine (markOf_any 5 _).mono ?_
  rintro e w2 ⟨rfl, rfl⟩
  have hm : bs (markW 5) = ⟨#[47]⟩ := rfl
  rw [hm]
  clear r0 l1 g1 g2
  go_wp2
  refine bodyPost_ret (v := .tuple #[.string ⟨#[]⟩, .bool false]) (R := SgNo w R) (by simp [results, Tryd.results94, go_sem]) rfl ?_
  exact ⟨rfl, (show Below w.heap.size w _ by first | exact HB.out | exact below_drewN HB.out HB.out.size).mono (Nat.le_of_lt hlt)⟩
set_option maxHeartbeats 3200000 in
theorem sign_6yes (w : World) (R M : Nat) (v : Value) (d : Int) (h : WB w R M v d) (hd : 0 ≤ d ∧ d ≤ 1000000) (pl fn : Int) (nm : List UInt8) (A : Option Addr) (n c : Nat) (hv : verbW fn true ≠ []) (hf : fn ≤ 17) :
    Calls Tryd.prog 94 #[.pointer (some ⟨R, 0, none⟩), itW 6 pl fn nm A n c] w (SgYes w R M v d 6 fn) := by
  obtain ⟨c0, c1, c2, f1, f2⟩ := h.cells
  have hlt := h.blt
  have hML := h.lt
  have HS := Lib.hid h
  have HD := Lib.hid hd
  obtain ⟨T, hT⟩ : ∃ T, T = lookT tabE fn := ⟨_, rfl⟩
  have hv1 : verbW fn true = T.2 := by rw [lookT_verb, hT]; rfl
  rw [hv1] at hv
  have HV := Lib.hid hv1
  have hbe : ((bs T.2).toList == []) = false := by rw [cmpB]; exact decide_eq_false hv
  have hz : (bs T.2).size ≤ 5 := by rw [bs_size, hT]; exact (lookT_len fn).2
  have hf1 : decide (17 < fn) = false := decide_eq_false (by omega)
  have hlk : ∀ W : World, W.heap[M]? = some (tabM 26) → (Instr.lookup 75 (.map (some M)) (.int .u8 fn) false).run Tryd.prog W = .ok (.agg #[.string (bs T.1), .string (bs T.2)]) W := fun W hW => by rw [hT]; exact look_verb W M fn hW
  obtain ⟨W, hW⟩ : ∃ W, W = w.alloc (.cells #[.int .i64 6, .int .i64 pl, .int .u8 fn, .string (bs nm), .slice A n c] 83) := ⟨_, rfl⟩
  have hWb : Below w.heap.size w W := by rw [hW]; exact (Below.refl _ _).alloc (Nat.le_refl _) _
  have hWn : W.heap[w.heap.size]? = some (.cells #[.int .i64 6, .int .i64 pl, .int .u8 fn, .string (bs nm), .slice A n c] 83 (0, 0)) := by rw [hW]; exact heap_alloc_new w _
  have b0 := fun j => (show (W.drewN j).cell? ⟨w.heap.size, 0, none⟩ = some (.int .i64 6) by rw [show (W.drewN j).cell? ⟨w.heap.size, 0, none⟩ = W.cell? ⟨w.heap.size, 0, none⟩ from rfl, cell_of_row _ _ _ _ _ _ hWn]; rfl)
  have b2 := fun j => (show (W.drewN j).cell? ⟨w.heap.size, 2, none⟩ = some (.int .u8 fn) by rw [show (W.drewN j).cell? ⟨w.heap.size, 2, none⟩ = W.cell? ⟨w.heap.size, 2, none⟩ from rfl, cell_of_row _ _ _ _ _ _ hWn]; rfl)
  have HW := Lib.hid hW
  clear h hv hv1 hT hW hWn hf
  unfold itW
  go_enter Tryd.func94, Tryd.ntmps94
  go_wp2
  rw [← HW.out]
  have WB2 := HS.out.below hWb
  clear c0 c1 c2 f1 f2
  obtain ⟨c0, c1, c2, f1, f2⟩ := WB2.cells
  have r0 := fun j => (show (W.drewN j).cell? ⟨R, 0, none⟩ = some (.map (some M)) from c0)
  have l1 := fun j => hlk (W.drewN j) WB2.tab
  have g1 := fun w => fieldV1 (bs T.1) (bs T.2) w
  have g2 := fun w => fieldV2 (bs T.1) (bs T.2) w
  have HB := Lib.hid hWb
  clear WB2 hlk c0 c1 c2 f1 f2 hWb hd
  go_quiet (fail)
  go_wp2_with fail
  refine (markOf_any 6 _).mono ?_
  rintro e w2 ⟨rfl, rfl⟩
  have hm : bs (markW 6) = ⟨#[92]⟩ := rfl
  rw [hm]
  clear r0 l1 g1 g2
  go_wp2_with fail
  refine (spend_any _ R M v d _ (HS.out.below (by first | exact HB.out | exact below_drewN HB.out HB.out.size)) HD.out (by decide)).mono ?_
  rintro e w3 ⟨rfl, rfl⟩
  go_wp2
  refine bodyPost_ret (v := .tuple #[.string (bs (verbW fn true ++ markW 6)), .bool (decide (1 + ((markW 6).length : Int) ≤ d))]) (R := SgYes w R M v d 6 fn) (by rw [HV.out, ← cat_bs, hm]; simp [results, Tryd.results94, go_sem, markW]) rfl ?_
  exact SgYes.of HS.out (by first | exact HB.out | exact below_drewN HB.out HB.out.size)
set_option maxHeartbeats 3200000 in
theorem sign_6no (w : World) (R M : Nat) (v : Value) (d : Int) (h : WB w R M v d) (hd : 0 ≤ d ∧ d ≤ 1000000) (pl fn : Int) (nm : List UInt8) (A : Option Addr) (n c : Nat) (hv : verbW fn true = []) :
    Calls Tryd.prog 94 #[.pointer (some ⟨R, 0, none⟩), itW 6 pl fn nm A n c] w (SgNo w R) := by
  obtain ⟨c0, c1, c2, f1, f2⟩ := h.cells
  have hlt := h.blt
  have hML := h.lt
  have HS := Lib.hid h
  have HD := Lib.hid hd
  obtain ⟨T, hT⟩ : ∃ T, T = lookT tabE fn := ⟨_, rfl⟩
  have hv1 : verbW fn true = T.2 := by rw [lookT_verb, hT]; rfl
  rw [hv1] at hv
  have HV := Lib.hid hv1
  have hbe : ((bs T.2).toList == []) = true := by rw [cmpB]; exact decide_eq_true hv
  have hlk : ∀ W : World, W.heap[M]? = some (tabM 26) → (Instr.lookup 75 (.map (some M)) (.int .u8 fn) false).run Tryd.prog W = .ok (.agg #[.string (bs T.1), .string (bs T.2)]) W := fun W hW => by rw [hT]; exact look_verb W M fn hW
  obtain ⟨W, hW⟩ : ∃ W, W = w.alloc (.cells #[.int .i64 6, .int .i64 pl, .int .u8 fn, .string (bs nm), .slice A n c] 83) := ⟨_, rfl⟩
  have hWb : Below w.heap.size w W := by rw [hW]; exact (Below.refl _ _).alloc (Nat.le_refl _) _
  have hWn : W.heap[w.heap.size]? = some (.cells #[.int .i64 6, .int .i64 pl, .int .u8 fn, .string (bs nm), .slice A n c] 83 (0, 0)) := by rw [hW]; exact heap_alloc_new w _
  have b0 := fun j => (show (W.drewN j).cell? ⟨w.heap.size, 0, none⟩ = some (.int .i64 6) by rw [show (W.drewN j).cell? ⟨w.heap.size, 0, none⟩ = W.cell? ⟨w.heap.size, 0, none⟩ from rfl, cell_of_row _ _ _ _ _ _ hWn]; rfl)
  have b2 := fun j => (show (W.drewN j).cell? ⟨w.heap.size, 2, none⟩ = some (.int .u8 fn) by rw [show (W.drewN j).cell? ⟨w.heap.size, 2, none⟩ = W.cell? ⟨w.heap.size, 2, none⟩ from rfl, cell_of_row _ _ _ _ _ _ hWn]; rfl)
  have HW := Lib.hid hW
  clear h hv hv1 hT hW hWn
  unfold itW
  go_enter Tryd.func94, Tryd.ntmps94
  go_wp2
  rw [← HW.out]
  have WB2 := HS.out.below hWb
  clear c0 c1 c2 f1 f2
  obtain ⟨c0, c1, c2, f1, f2⟩ := WB2.cells
  have r0 := fun j => (show (W.drewN j).cell? ⟨R, 0, none⟩ = some (.map (some M)) from c0)
  have l1 := fun j => hlk (W.drewN j) WB2.tab
  have g1 := fun w => fieldV1 (bs T.1) (bs T.2) w
  have g2 := fun w => fieldV2 (bs T.1) (bs T.2) w
  have HB := Lib.hid hWb
  clear WB2 hlk c0 c1 c2 f1 f2 hWb hd
  go_quiet (fail)
  go_wp2_with fail
  refine (markOf_any 6 _).mono ?_
  rintro e w2 ⟨rfl, rfl⟩
  have hm : bs (markW 6) = ⟨#[92]⟩ := rfl
  rw [hm]
  clear r0 l1 g1 g2
  go_wp2
  refine bodyPost_ret (v := .tuple #[.string ⟨#[]⟩, .bool false]) (R := SgNo w R) (by simp [results, Tryd.results94, go_sem]) rfl ?_
  exact ⟨rfl, (show Below w.heap.size w _ by first | exact HB.out | exact below_drewN HB.out HB.out.size).mono (Nat.le_of_lt hlt)⟩
set_option maxHeartbeats 3200000 in
theorem sign_6far (w : World) (R M : Nat) (v : Value) (d : Int) (h : WB w R M v d) (hd : 0 ≤ d ∧ d ≤ 1000000) (pl fn : Int) (nm : List UInt8) (A : Option Addr) (n c : Nat) (hv : verbW fn true ≠ []) (hf : ¬ fn ≤ 17) :
    Calls Tryd.prog 94 #[.pointer (some ⟨R, 0, none⟩), itW 6 pl fn nm A n c] w (SgNo w R) := by
  obtain ⟨c0, c1, c2, f1, f2⟩ := h.cells
  have hlt := h.blt
  have hML := h.lt
  have HS := Lib.hid h
  have HD := Lib.hid hd
  obtain ⟨T, hT⟩ : ∃ T, T = lookT tabE fn := ⟨_, rfl⟩
  have hv1 : verbW fn true = T.2 := by rw [lookT_verb, hT]; rfl
  rw [hv1] at hv
  have HV := Lib.hid hv1
  have hbe : ((bs T.2).toList == []) = false := by rw [cmpB]; exact decide_eq_false hv
  have hz : (bs T.2).size ≤ 5 := by rw [bs_size, hT]; exact (lookT_len fn).2
  have hf1 : decide (17 < fn) = true := decide_eq_true (by omega)
  have hlk : ∀ W : World, W.heap[M]? = some (tabM 26) → (Instr.lookup 75 (.map (some M)) (.int .u8 fn) false).run Tryd.prog W = .ok (.agg #[.string (bs T.1), .string (bs T.2)]) W := fun W hW => by rw [hT]; exact look_verb W M fn hW
  obtain ⟨W, hW⟩ : ∃ W, W = w.alloc (.cells #[.int .i64 6, .int .i64 pl, .int .u8 fn, .string (bs nm), .slice A n c] 83) := ⟨_, rfl⟩
  have hWb : Below w.heap.size w W := by rw [hW]; exact (Below.refl _ _).alloc (Nat.le_refl _) _
  have hWn : W.heap[w.heap.size]? = some (.cells #[.int .i64 6, .int .i64 pl, .int .u8 fn, .string (bs nm), .slice A n c] 83 (0, 0)) := by rw [hW]; exact heap_alloc_new w _
  have b0 := fun j => (show (W.drewN j).cell? ⟨w.heap.size, 0, none⟩ = some (.int .i64 6) by rw [show (W.drewN j).cell? ⟨w.heap.size, 0, none⟩ = W.cell? ⟨w.heap.size, 0, none⟩ from rfl, cell_of_row _ _ _ _ _ _ hWn]; rfl)
  have b2 := fun j => (show (W.drewN j).cell? ⟨w.heap.size, 2, none⟩ = some (.int .u8 fn) by rw [show (W.drewN j).cell? ⟨w.heap.size, 2, none⟩ = W.cell? ⟨w.heap.size, 2, none⟩ from rfl, cell_of_row _ _ _ _ _ _ hWn]; rfl)
  have HW := Lib.hid hW
  clear h hv hv1 hT hW hWn hf
  unfold itW
  go_enter Tryd.func94, Tryd.ntmps94
  go_wp2
  rw [← HW.out]
  have WB2 := HS.out.below hWb
  clear c0 c1 c2 f1 f2
  obtain ⟨c0, c1, c2, f1, f2⟩ := WB2.cells
  have r0 := fun j => (show (W.drewN j).cell? ⟨R, 0, none⟩ = some (.map (some M)) from c0)
  have l1 := fun j => hlk (W.drewN j) WB2.tab
  have g1 := fun w => fieldV1 (bs T.1) (bs T.2) w
  have g2 := fun w => fieldV2 (bs T.1) (bs T.2) w
  have HB := Lib.hid hWb
  clear WB2 hlk c0 c1 c2 f1 f2 hWb hd
  go_quiet (fail)
  go_wp2_with fail
  refine (markOf_any 6 _).mono ?_
  rintro e w2 ⟨rfl, rfl⟩
  have hm : bs (markW 6) = ⟨#[92]⟩ := rfl
  rw [hm]
  clear r0 l1 g1 g2
  go_wp2
  refine bodyPost_ret (v := .tuple #[.string ⟨#[]⟩, .bool false]) (R := SgNo w R) (by simp [results, Tryd.results94, go_sem]) rfl ?_
  exact ⟨rfl, (show Below w.heap.size w _ by first | exact HB.out | exact below_drewN HB.out HB.out.size).mono (Nat.le_of_lt hlt)⟩
set_option maxHeartbeats 3200000 in
theorem sign_7yes (w : World) (R M : Nat) (v : Value) (d : Int) (h : WB w R M v d) (hd : 0 ≤ d ∧ d ≤ 1000000) (pl fn : Int) (nm : List UInt8) (A : Option Addr) (n c : Nat) (hv : verbW fn true ≠ []) (hf : fn ≤ 17) :
    Calls Tryd.prog 94 #[.pointer (some ⟨R, 0, none⟩), itW 7 pl fn nm A n c] w (SgYes w R M v d 7 fn) := by
  obtain ⟨c0, c1, c2, f1, f2⟩ := h.cells
  have hlt := h.blt
  have hML := h.lt
  have HS := Lib.hid h
  have HD := Lib.hid hd
  obtain ⟨T, hT⟩ : ∃ T, T = lookT tabE fn := ⟨_, rfl⟩
  have hv1 : verbW fn true = T.2 := by rw [lookT_verb, hT]; rfl
  rw [hv1] at hv
  have HV := Lib.hid hv1
  have hbe : ((bs T.2).toList == []) = false := by rw [cmpB]; exact decide_eq_false hv
  have hz : (bs T.2).size ≤ 5 := by rw [bs_size, hT]; exact (lookT_len fn).2
  have hf1 : decide (17 < fn) = false := decide_eq_false (by omega)
  have hlk : ∀ W : World, W.heap[M]? = some (tabM 26) → (Instr.lookup 75 (.map (some M)) (.int .u8 fn) false).run Tryd.prog W = .ok (.agg #[.string (bs T.1), .string (bs T.2)]) W := fun W hW => by rw [hT]; exact look_verb W M fn hW
  obtain ⟨W, hW⟩ : ∃ W, W = w.alloc (.cells #[.int .i64 7, .int .i64 pl, .int .u8 fn, .string (bs nm), .slice A n c] 83) := ⟨_, rfl⟩
  have hWb : Below w.heap.size w W := by rw [hW]; exact (Below.refl _ _).alloc (Nat.le_refl _) _
  have hWn : W.heap[w.heap.size]? = some (.cells #[.int .i64 7, .int .i64 pl, .int .u8 fn, .string (bs nm), .slice A n c] 83 (0, 0)) := by rw [hW]; exact heap_alloc_new w _
  have b0 := fun j => (show (W.drewN j).cell? ⟨w.heap.size, 0, none⟩ = some (.int .i64 7) by rw [show (W.drewN j).cell? ⟨w.heap.size, 0, none⟩ = W.cell? ⟨w.heap.size, 0, none⟩ from rfl, cell_of_row _ _ _ _ _ _ hWn]; rfl)
  have b2 := fun j => (show (W.drewN j).cell? ⟨w.heap.size, 2, none⟩ = some (.int .u8 fn) by rw [show (W.drewN j).cell? ⟨w.heap.size, 2, none⟩ = W.cell? ⟨w.heap.size, 2, none⟩ from rfl, cell_of_row _ _ _ _ _ _ hWn]; rfl)
  have HW := Lib.hid hW
  clear h hv hv1 hT hW hWn hf
  unfold itW
  go_enter Tryd.func94, Tryd.ntmps94
  go_wp2
  rw [← HW.out]
  have WB2 := HS.out.below hWb
  clear c0 c1 c2 f1 f2
  obtain ⟨c0, c1, c2, f1, f2⟩ := WB2.cells
  have r0 := fun j => (show (W.drewN j).cell? ⟨R, 0, none⟩ = some (.map (some M)) from c0)
  have l1 := fun j => hlk (W.drewN j) WB2.tab
  have g1 := fun w => fieldV1 (bs T.1) (bs T.2) w
  have g2 := fun w => fieldV2 (bs T.1) (bs T.2) w
  have HB := Lib.hid hWb
  clear WB2 hlk c0 c1 c2 f1 f2 hWb hd
  go_quiet (fail)
  go_wp2_with fail
  refine (markOf_any 7 _).mono ?_
  rintro e w2 ⟨rfl, rfl⟩
  have hm : bs (markW 7) = ⟨#[46]⟩ := rfl
  rw [hm]
  clear r0 l1 g1 g2
  go_wp2_with fail
  refine (spend_any _ R M v d _ (HS.out.below (by first | exact HB.out | exact below_drewN HB.out HB.out.size)) HD.out (by decide)).mono ?_
  rintro e w3 ⟨rfl, rfl⟩
  go_wp2
  refine bodyPost_ret (v := .tuple #[.string (bs (verbW fn true ++ markW 7)), .bool (decide (1 + ((markW 7).length : Int) ≤ d))]) (R := SgYes w R M v d 7 fn) (by rw [HV.out, ← cat_bs, hm]; simp [results, Tryd.results94, go_sem, markW]) rfl ?_
  exact SgYes.of HS.out (by first | exact HB.out | exact below_drewN HB.out HB.out.size)
set_option maxHeartbeats 3200000 in
theorem sign_7no (w : World) (R M : Nat) (v : Value) (d : Int) (h : WB w R M v d) (hd : 0 ≤ d ∧ d ≤ 1000000) (pl fn : Int) (nm : List UInt8) (A : Option Addr) (n c : Nat) (hv : verbW fn true = []) :
    Calls Tryd.prog 94 #[.pointer (some ⟨R, 0, none⟩), itW 7 pl fn nm A n c] w (SgNo w R) := by
  obtain ⟨c0, c1, c2, f1, f2⟩ := h.cells
  have hlt := h.blt
  have hML := h.lt
  have HS := Lib.hid h
  have HD := Lib.hid hd
  obtain ⟨T, hT⟩ : ∃ T, T = lookT tabE fn := ⟨_, rfl⟩
  have hv1 : verbW fn true = T.2 := by rw [lookT_verb, hT]; rfl
  rw [hv1] at hv
  have HV := Lib.hid hv1
  have hbe : ((bs T.2).toList == []) = true := by rw [cmpB]; exact decide_eq_true hv
  have hlk : ∀ W : World, W.heap[M]? = some (tabM 26) → (Instr.lookup 75 (.map (some M)) (.int .u8 fn) false).run Tryd.prog W = .ok (.agg #[.string (bs T.1), .string (bs T.2)]) W := fun W hW => by rw [hT]; exact look_verb W M fn hW
  obtain ⟨W, hW⟩ : ∃ W, W = w.alloc (.cells #[.int .i64 7, .int .i64 pl, .int .u8 fn, .string (bs nm), .slice A n c] 83) := ⟨_, rfl⟩
  have hWb : Below w.heap.size w W := by rw [hW]; exact (Below.refl _ _).alloc (Nat.le_refl _) _
  have hWn : W.heap[w.heap.size]? = some (.cells #[.int .i64 7, .int .i64 pl, .int .u8 fn, .string (bs nm), .slice A n c] 83 (0, 0)) := by rw [hW]; exact heap_alloc_new w _
  have b0 := fun j => (show (W.drewN j).cell? ⟨w.heap.size, 0, none⟩ = some (.int .i64 7) by rw [show (W.drewN j).cell? ⟨w.heap.size, 0, none⟩ = W.cell? ⟨w.heap.size, 0, none⟩ from rfl, cell_of_row _ _ _ _ _ _ hWn]; rfl)
  have b2 := fun j => (show (W.drewN j).cell? ⟨w.heap.size, 2, none⟩ = some (.int .u8 fn) by rw [show (W.drewN j).cell? ⟨w.heap.size, 2, none⟩ = W.cell? ⟨w.heap.size, 2, none⟩ from rfl, cell_of_row _ _ _ _ _ _ hWn]; rfl)
  have HW := Lib.hid hW
  clear h hv hv1 hT hW hWn
  unfold itW
  go_enter Tryd.func94, Tryd.ntmps94
  go_wp2
  rw [← HW.out]
  have WB2 := HS.out.below hWb
  clear c0 c1 c2 f1 f2
  obtain ⟨c0, c1, c2, f1, f2⟩ := WB2.cells
  have r0 := fun j => (show (W.drewN j).cell? ⟨R, 0, none⟩ = some (.map (some M)) from c0)
  have l1 := fun j => hlk (W.drewN j) WB2.tab
  have g1 := fun w => fieldV1 (bs T.1) (bs T.2) w
  have g2 := fun w => fieldV2 (bs T.1) (bs T.2) w
  have HB := Lib.hid hWb
  clear WB2 hlk c0 c1 c2 f1 f2 hWb hd
  go_quiet (fail)
  go_wp2_with fail
  refine (markOf_any 7 _).mono ?_
  rintro e w2 ⟨rfl, rfl⟩
  have hm : bs (markW 7) = ⟨#[46]⟩ := rfl
  rw [hm]
  clear r0 l1 g1 g2
  go_wp2
  refine bodyPost_ret (v := .tuple #[.string ⟨#[]⟩, .bool false]) (R := SgNo w R) (by simp [results, Tryd.results94, go_sem]) rfl ?_
  exact ⟨rfl, (show Below w.heap.size w _ by first | exact HB.out | exact below_drewN HB.out HB.out.size).mono (Nat.le_of_lt hlt)⟩
set_option maxHeartbeats 3200000 in
theorem sign_7far (w : World) (R M : Nat) (v : Value) (d : Int) (h : WB w R M v d) (hd : 0 ≤ d ∧ d ≤ 1000000) (pl fn : Int) (nm : List UInt8) (A : Option Addr) (n c : Nat) (hv : verbW fn true ≠ []) (hf : ¬ fn ≤ 17) :
    Calls Tryd.prog 94 #[.pointer (some ⟨R, 0, none⟩), itW 7 pl fn nm A n c] w (SgNo w R) := by
  obtain ⟨c0, c1, c2, f1, f2⟩ := h.cells
  have hlt := h.blt
  have hML := h.lt
  have HS := Lib.hid h
  have HD := Lib.hid hd
  obtain ⟨T, hT⟩ : ∃ T, T = lookT tabE fn := ⟨_, rfl⟩
  have hv1 : verbW fn true = T.2 := by rw [lookT_verb, hT]; rfl
  rw [hv1] at hv
  have HV := Lib.hid hv1
  have hbe : ((bs T.2).toList == []) = false := by rw [cmpB]; exact decide_eq_false hv
  have hz : (bs T.2).size ≤ 5 := by rw [bs_size, hT]; exact (lookT_len fn).2
  have hf1 : decide (17 < fn) = true := decide_eq_true (by omega)
  have hlk : ∀ W : World, W.heap[M]? = some (tabM 26) → (Instr.lookup 75 (.map (some M)) (.int .u8 fn) false).run Tryd.prog W = .ok (.agg #[.string (bs T.1), .string (bs T.2)]) W := fun W hW => by rw [hT]; exact look_verb W M fn hW
  obtain ⟨W, hW⟩ : ∃ W, W = w.alloc (.cells #[.int .i64 7, .int .i64 pl, .int .u8 fn, .string (bs nm), .slice A n c] 83) := ⟨_, rfl⟩
  have hWb : Below w.heap.size w W := by rw [hW]; exact (Below.refl _ _).alloc (Nat.le_refl _) _
  have hWn : W.heap[w.heap.size]? = some (.cells #[.int .i64 7, .int .i64 pl, .int .u8 fn, .string (bs nm), .slice A n c] 83 (0, 0)) := by rw [hW]; exact heap_alloc_new w _
  have b0 := fun j => (show (W.drewN j).cell? ⟨w.heap.size, 0, none⟩ = some (.int .i64 7) by rw [show (W.drewN j).cell? ⟨w.heap.size, 0, none⟩ = W.cell? ⟨w.heap.size, 0, none⟩ from rfl, cell_of_row _ _ _ _ _ _ hWn]; rfl)
  have b2 := fun j => (show (W.drewN j).cell? ⟨w.heap.size, 2, none⟩ = some (.int .u8 fn) by rw [show (W.drewN j).cell? ⟨w.heap.size, 2, none⟩ = W.cell? ⟨w.heap.size, 2, none⟩ from rfl, cell_of_row _ _ _ _ _ _ hWn]; rfl)
  have HW := Lib.hid hW
  clear h hv hv1 hT hW hWn hf
  unfold itW
  go_enter Tryd.func94, Tryd.ntmps94
  go_wp2
  rw [← HW.out]
  have WB2 := HS.out.below hWb
  clear c0 c1 c2 f1 f2
  obtain ⟨c0, c1, c2, f1, f2⟩ := WB2.cells
  have r0 := fun j => (show (W.drewN j).cell? ⟨R, 0, none⟩ = some (.map (some M)) from c0)
  have l1 := fun j => hlk (W.drewN j) WB2.tab
  have g1 := fun w => fieldV1 (bs T.1) (bs T.2) w
  have g2 := fun w => fieldV2 (bs T.1) (bs T.2) w
  have HB := Lib.hid hWb
  clear WB2 hlk c0 c1 c2 f1 f2 hWb hd
  go_quiet (fail)
  go_wp2_with fail
  refine (markOf_any 7 _).mono ?_
  rintro e w2 ⟨rfl, rfl⟩
  have hm : bs (markW 7) = ⟨#[46]⟩ := rfl
  rw [hm]
  clear r0 l1 g1 g2
  go_wp2
  refine bodyPost_ret (v := .tuple #[.string ⟨#[]⟩, .bool false]) (R := SgNo w R) (by simp [results, Tryd.results94, go_sem]) rfl ?_
  exact ⟨rfl, (show Below w.heap.size w _ by first | exact HB.out | exact below_drewN HB.out HB.out.size).mono (Nat.le_of_lt hlt)⟩
end Go.Proofs.YtbapgdhcbfpdoaaDoor
