/- Contracts of the code's lineText, sideText, inputText. -/
import Derived.Test.YtbapgdhcbfpdoaaDoorZSm
import Derived.Test.YtbapgdhcbfpdoaaDoorZSd
import Derived.Deep.RegionHeld3
namespace Go.Proofs.YtbapgdhcbfpdoaaDoor
open Go.RowKit
set_option linter.unusedVariables false
set_option maxRecDepth 100000
/-- A text that may be, or none: then whatever. -/
def TxLn (w : World) (a : Option (List UInt8)) (e : Ending) (w' : World) : Prop := (match a with
    | some s => e = .returned (.tuple #[.string (bs s), .bool true])
    | none => ∃ s : ByteArray, e = .returned (.tuple #[.string s, .bool false])) ∧ Below w.heap.size w w'
theorem exp_size {a : Option (List UInt8)} (h : ∀ s, a = some s → s.length ≤ 6144) : (bs (a.getD [])).size ≤ 6144 := by
  rw [bs_size]
  cases a with
  | none => exact Nat.zero_le _
  | some s => exact h s rfl
abbrev lnC (m : Ln) (A : Option Addr) (n c : Nat) : Obj := .cells #[.string (bs m.nm), .int .i64 m.pl, .slice A n c] 58
section
variable (w : World) (M : Nat) (m : Ln) (n : Nat) (A : Option Addr) (c : Nat) (hla : LaidP w) (hM : w.heap[M]? = some (tabM 26)) (hn : m.its.length = n) (h : ItsU w A m.its) (hb : LnB m) (hc : n ≤ c)
set_option maxHeartbeats 1600000 in
theorem line_bad1 (hnm : m.nm ≠ []) (hb : m.nm.length ≤ 140737488355320) : Calls Tryd.prog 32 #[.agg #[.string (bs m.nm), .int .i64 m.pl, .slice A n c], .bool true, .map (some M)] w (TxLn w none) := by
  have hbn : ((bs m.nm).toList == []) = false := cmpNo hnm
  have hbm : ((bs m.nm).toList != []) = true := by rw [bne, hbn]; rfl
  have hz : (bs m.nm).size ≤ 140737488355320 := by rw [bs_size]; exact hb
  clear hnm hb
  go_enter Tryd.func32, Tryd.ntmps32
  go_wp2
  exact bodyPost_ret (v := .tuple #[.string ⟨#[]⟩, .bool false]) (R := TxLn w none) (by simp [results, Tryd.results32, go_sem]) rfl ⟨⟨_, rfl⟩, (Below.refl _ _).alloc (Nat.le_refl _) _⟩
set_option maxHeartbeats 1600000 in
include hla in
theorem line_bad2 (hnm : nameB m.nm = false) (hb : m.nm.length ≤ 140737488355320) : Calls Tryd.prog 32 #[.agg #[.string (bs m.nm), .int .i64 m.pl, .slice A n c], .bool false, .map (some M)] w (TxLn w none) := by
  have hW : Below w.heap.size w (w.alloc (lnC m A n c)) := (Below.refl _ _).alloc (Nat.le_refl _) _
  have hname := name_any (bs m.nm) _ (hla.below hW) (by rw [bs_size]; exact hb)
  rw [bs_list, hnm] at hname
  have HM := Lib.hid hname
  have HW := Lib.hid hW
  have hz : (bs m.nm).size ≤ 140737488355320 := by rw [bs_size]; exact hb
  clear hnm hb hname hla hW
  go_enter Tryd.func32, Tryd.ntmps32
  go_wp2_with fail
  refine HM.out.mono ?_
  rintro e w1 ⟨rfl, b1⟩
  have B1 := Lib.hid (HW.out.trans (b1.mono HW.out.size))
  clear b1
  go_wp2
  exact bodyPost_ret (v := .tuple #[.string ⟨#[]⟩, .bool false]) (R := TxLn w none) (by simp [results, Tryd.results32, go_sem]) rfl ⟨⟨_, rfl⟩, B1.out⟩
set_option maxHeartbeats 1600000 in
include hla hM hn h hb hc in
theorem line_last (hnm : m.nm = []) : Calls Tryd.prog 32 #[.agg #[.string (bs m.nm), .int .i64 m.pl, .slice A n c], .bool true, .map (some M)] w (TxLn w ((exprP m.its 1).map fun t => [111, 117, 116, 32] ++ t)) := by
  have hbn : ((bs m.nm).toList == []) = true := cmpYes hnm
  have hbm : ((bs m.nm).toList != []) = false := by rw [bne, hbn]; rfl
  have hz : (bs m.nm).size ≤ 10 := by rw [bs_size, hnm]; decide
  have hW : Below w.heap.size w (w.alloc (lnC m A n c)) := (Below.refl _ _).alloc (Nat.le_refl _) _
  have hex := expression_any _ M 1 m.its n A c (hla.below hW) ((hW.block _ (heap_lt hM)).trans hM) hn (h.below hW) hb.its hc (by rw [← hn]; exact hb.len) (by decide) 255 (by decide)
  have hsz := exp_size (a := exprP m.its 1) fun s hs => exprP_len hs fun x hx => (hb.its x hx).ns
  obtain ⟨a, ha⟩ : ∃ a, a = exprP m.its 1 := ⟨_, rfl⟩
  rw [← ha] at hex hsz ⊢
  obtain ⟨T, hT⟩ : ∃ T, T = a.map fun t => [111, 117, 116, 32] ++ t := ⟨_, rfl⟩
  rw [← hT]
  have HT := Lib.hid hT
  have HE := Lib.hid hex
  have HW := Lib.hid hW
  clear hex hW hla hM h hb hn hnm ha hT
  go_enter Tryd.func32, Tryd.ntmps32
  go_wp2_with fail
  refine HE.out.mono ?_
  rintro e w1 ⟨rfl, b1⟩
  have B1 := Lib.hid (HW.out.trans (b1.mono HW.out.size))
  clear b1
  cases a with
  | none =>
    simp only [Option.getD_none, Option.isSome_none] at hsz ⊢
    go_wp2
    refine bodyPost_ret (v := .tuple #[.string (⟨#[111, 117, 116]⟩ ++ ⟨#[32]⟩ ++ bs []), .bool false]) (R := TxLn w T) (by simp [results, Tryd.results32, go_sem]) rfl ?_
    rw [HT.out]
    exact ⟨⟨_, rfl⟩, B1.out⟩
  | some s =>
    simp only [Option.getD_some, Option.isSome_some] at hsz ⊢
    go_wp2
    refine bodyPost_ret (v := .tuple #[.string (⟨#[111, 117, 116]⟩ ++ ⟨#[32]⟩ ++ bs s), .bool true]) (R := TxLn w T) (by simp [results, Tryd.results32, go_sem]) rfl ?_
    rw [HT.out]
    exact ⟨by rw [show (⟨#[111, 117, 116]⟩ : ByteArray) = bs [111, 117, 116] from rfl, show (⟨#[32]⟩ : ByteArray) = bs [32] from rfl, cat_bs, cat_bs]; rfl, B1.out⟩
set_option maxHeartbeats 1600000 in
include hla hM hn h hb hc in
theorem line_more (hnm : nameB m.nm = true) : Calls Tryd.prog 32 #[.agg #[.string (bs m.nm), .int .i64 m.pl, .slice A n c], .bool false, .map (some M)] w (TxLn w ((exprP m.its 2).map fun t => m.nm ++ [58, 32] ++ t)) := by
  have hz : (bs m.nm).size ≤ 16 := by rw [bs_size]; exact nameB_le hnm
  have hW : Below w.heap.size w (w.alloc (lnC m A n c)) := (Below.refl _ _).alloc (Nat.le_refl _) _
  have hname := name_any (bs m.nm) _ (hla.below hW) (by omega)
  rw [bs_list, hnm] at hname
  have HM := Lib.hid hname
  have hex := fun W (hb2 : Below w.heap.size w W) => expression_any W M 2 m.its n A c (hla.below hb2) ((hb2.block _ (heap_lt hM)).trans hM) hn (h.below hb2) hb.its hc (by rw [← hn]; exact hb.len) (by decide) 254 (by decide)
  have hsz := exp_size (a := exprP m.its 2) fun s hs => exprP_len hs fun x hx => (hb.its x hx).ns
  obtain ⟨a, ha⟩ : ∃ a, a = exprP m.its 2 := ⟨_, rfl⟩
  rw [← ha] at hex hsz ⊢
  have HE := Lib.hid hex
  have HW := Lib.hid hW
  have hw0 : ∀ W, Below w.heap.size w W → W.cell? ⟨w.heap.size, 0, none⟩ = W.cell? ⟨w.heap.size, 0, none⟩ := fun _ _ => rfl
  clear hex hW hla hM h hb hn hnm ha hname hw0
  go_enter Tryd.func32, Tryd.ntmps32
  go_wp2_with fail
  refine HM.out.mono ?_
  rintro e w1 ⟨rfl, b1⟩
  have hs1 := b1.size
  have k1 : w1.heap[w.heap.size]? = some (.cells #[.string (bs m.nm), .int .i64 m.pl, .slice A n c] 58 (0, 0)) := (b1.block _ (by simp)).trans (heap_alloc_new w _)
  have k2 : w1.cell? ⟨w.heap.size, 2, none⟩ = some (.slice A n c) := by rw [cell_of_row _ _ _ _ _ _ k1]; rfl
  have B1 := Lib.hid (HW.out.trans (b1.mono HW.out.size))
  clear b1 k1
  go_wp2_with fail
  refine (HE.out _ B1.out).mono ?_
  rintro e w2 ⟨rfl, b2⟩
  have B2 := Lib.hid (B1.out.trans (b2.mono B1.out.size))
  clear b2 k2
  cases a with
  | none =>
    simp only [Option.getD_none, Option.isSome_none] at hsz ⊢
    go_wp2
    refine bodyPost_ret (v := .tuple #[.string (bs m.nm ++ ⟨#[58]⟩ ++ ⟨#[32]⟩ ++ bs []), .bool false]) (R := TxLn w none) (by simp [results, Tryd.results32, go_sem]) rfl ?_
    exact ⟨⟨_, rfl⟩, B2.out⟩
  | some s =>
    simp only [Option.getD_some, Option.isSome_some] at hsz ⊢
    go_wp2
    refine bodyPost_ret (v := .tuple #[.string (bs m.nm ++ ⟨#[58]⟩ ++ ⟨#[32]⟩ ++ bs s), .bool true]) (R := TxLn w (some (m.nm ++ [58, 32] ++ s))) (by simp [results, Tryd.results32, go_sem]) rfl ?_
    refine ⟨?_, B2.out⟩
    rw [show (⟨#[58]⟩ : ByteArray) = bs [58] from rfl, show (⟨#[32]⟩ : ByteArray) = bs [32] from rfl, cat_bs, cat_bs, cat_bs]
    simp
include hla hM hn h hb hc in
theorem lineText_any (last : Bool) : Calls Tryd.prog 32 #[.agg #[.string (bs m.nm), .int .i64 m.pl, .slice A n c], .bool last, .map (some M)] w (TxLn w (lnP m last)) := by
  unfold lnP
  cases last with
  | true =>
    rw [if_pos rfl]
    by_cases h1 : m.nm = []
    · rw [if_pos h1]; exact line_last w M m n A c hla hM hn h hb hc h1
    · rw [if_neg h1]; exact line_bad1 w M m n A c h1 hb.nm
  | false =>
    rw [if_neg (by decide)]
    by_cases h1 : nameB m.nm = false
    · rw [if_pos h1]; exact line_bad2 w M m n A c hla h1 hb.nm
    · rw [if_neg h1]; exact line_more w M m n A c hla hM hn h hb hc (by simpa using h1)
end
/-! ### a side -/
abbrev sdC (d : List UInt8 × Int) : Obj := .cells #[.string (bs d.1), .int .i64 d.2] 55
set_option maxHeartbeats 1600000 in
theorem side_num (w : World) (hla : LaidP w) (d : List UInt8 × Int) (h1 : d.1 = []) (hr : rng d.2) : Calls Tryd.prog 48 #[.agg #[.string (bs d.1), .int .i64 d.2]] w (TxLn w (some (digs d.2))) := by
  have hbn : ((bs d.1).toList == []) = true := cmpYes h1
  have hW : Below w.heap.size w (w.alloc (sdC d)) := (Below.refl _ _).alloc (Nat.le_refl _) _
  have HN := Lib.hid (shnum_any d.2 _ (hla.below hW) hr)
  have HW := Lib.hid hW
  clear h1 hr hla hW
  go_enter Tryd.func48, Tryd.ntmps48
  go_wp2_with fail
  refine HN.out.mono ?_
  rintro e w1 ⟨rfl, b1⟩
  have B1 := Lib.hid (HW.out.trans (b1.mono HW.out.size))
  clear b1
  go_wp2
  exact bodyPost_ret (v := .tuple #[.string (bs (digs d.2)), .bool true]) (R := TxLn w (some (digs d.2))) (by simp [results, Tryd.results48, go_sem]) rfl ⟨rfl, B1.out⟩
set_option maxHeartbeats 1600000 in
theorem side_nz (w : World) (hla : LaidP w) (d : List UInt8 × Int) (h1 : d.1 ≠ []) (h2 : d.2 ≠ 0) : Calls Tryd.prog 48 #[.agg #[.string (bs d.1), .int .i64 d.2]] w (TxLn w none) := by
  have hbn : ((bs d.1).toList == []) = false := cmpNo h1
  have hz : (d.2 == 0) = false := beq0 h2
  obtain ⟨W, hW0⟩ : ∃ W, W = w.alloc (sdC d) := ⟨_, rfl⟩
  have hW : Below w.heap.size w W := by rw [hW0]; exact (Below.refl _ _).alloc (Nat.le_refl _) _
  have k1 : W.heap[w.heap.size]? = some (sdC d) := by rw [hW0]; exact heap_alloc_new w _
  have u0 := fun j => (show (W.drewN j).cell? ⟨w.heap.size, 0, none⟩ = some (.string (bs d.1)) by rw [show (W.drewN j).cell? ⟨w.heap.size, 0, none⟩ = W.cell? ⟨w.heap.size, 0, none⟩ from rfl, cell_of_row _ _ _ _ _ _ k1]; rfl)
  have u1 := fun j => (show (W.drewN j).cell? ⟨w.heap.size, 1, none⟩ = some (.int .i64 d.2) by rw [show (W.drewN j).cell? ⟨w.heap.size, 1, none⟩ = W.cell? ⟨w.heap.size, 1, none⟩ from rfl, cell_of_row _ _ _ _ _ _ k1]; rfl)
  have HW := Lib.hid (And.intro hW0 hW)
  clear h1 h2 hW0 hW hla k1
  go_enter Tryd.func48, Tryd.ntmps48
  go_wp2_with fail
  rw [← HW.out.1]
  go_quiet (fail)
  go_wp2
  exact bodyPost_ret (v := .tuple #[.string (bs d.1), .bool false]) (R := TxLn w none) (by simp [results, Tryd.results48, go_sem]) rfl ⟨⟨_, rfl⟩, by first | exact HW.out.2 | exact below_drewN HW.out.2 HW.out.2.size⟩
theorem hid_drew {V w : World} {n : Nat} (h : Hid (Below V.heap.size V w)) : Hid (Below V.heap.size V (w.drewN n)) := below_drewN h.out h.out.size
theorem hid_trans {V w w' : World} (h : Hid (Below V.heap.size V w)) (g : Below w.heap.size w w') : Hid (Below V.heap.size V w') := h.out.trans (g.mono h.out.size)
set_option maxHeartbeats 3200000 in
theorem side_name (w : World) (hla : LaidP w) (d : List UInt8 × Int) (h1 : d.1 ≠ []) (h2 : d.2 = 0) (hl : d.1.length ≤ 140737488355320) : Calls Tryd.prog 48 #[.agg #[.string (bs d.1), .int .i64 d.2]] w (TxLn w (if nameB d.1 = true then some d.1 else none)) := by
  obtain ⟨nm, n⟩ := d
  subst h2
  have hbn : ((bs nm).toList == []) = false := cmpNo h1
  obtain ⟨W, hW0⟩ : ∃ W, W = w.alloc (sdC (nm, 0)) := ⟨_, rfl⟩
  have hW : Below w.heap.size w W := by rw [hW0]; exact (Below.refl _ _).alloc (Nat.le_refl _) _
  have k1 : W.heap[w.heap.size]? = some (sdC (nm, 0)) := by rw [hW0]; exact heap_alloc_new w _
  have u0 : W.cell? ⟨w.heap.size, 0, none⟩ = some (.string (bs nm)) := by rw [cell_of_row _ _ _ _ _ _ k1]; rfl
  have u1 : W.cell? ⟨w.heap.size, 1, none⟩ = some (.int .i64 0) := by rw [cell_of_row _ _ _ _ _ _ k1]; rfl
  have hlW : w.heap.size < W.heap.size := heap_lt k1
  have KS : ∀ w', Hid (Below W.heap.size W w') → w'.cell? ⟨w.heap.size, 0, none⟩ = some (.string (bs nm)) ∧ w'.cell? ⟨w.heap.size, 1, none⟩ = some (.int .i64 0) ∧ Hid (Below W.heap.size W w') := fun w' h => ⟨(cell_below h.out hlW _).trans u0, (cell_below h.out hlW _).trans u1, h⟩
  have HNM := Lib.hid (fun W' (hb : Below W.heap.size W W') => name_any (bs nm) W' ((hla.below hW).below hb) (by rw [bs_size]; exact hl))
  rw [bs_list] at HNM
  have HW := Lib.hid (And.intro hW0 hW)
  have k0 : Hid (Below W.heap.size W W) := Lib.hid (Below.refl _ _)
  obtain ⟨D, hD⟩ : ∃ D, D = nameB nm := ⟨_, rfl⟩
  rw [← hD] at HNM
  show Calls _ _ _ w (TxLn w (if nameB nm = true then some nm else none))
  rw [← hD]
  obtain ⟨T, hT⟩ : ∃ T, T = if D = true then some nm else none := ⟨_, rfl⟩
  rw [← hT]
  have HT := Lib.hid hT
  clear hT h1 hW0 hW hla k1 hl hD
  go_enter Tryd.func48, Tryd.ntmps48
  go_wp2
  rw [← HW.out.1]
  go_region_held3 (fun w' => w'.cell? ⟨w.heap.size, 0, none⟩ = some (.string (bs nm)) ∧ w'.cell? ⟨w.heap.size, 1, none⟩ = some (.int .i64 0) ∧ Hid (Below W.heap.size W w'))
    (first | (exact KS _ (by first | assumption | exact hid_drew (by assumption))) | go_keep)
    (first | (go_at_call 36; refine (HNM.out _ (Hid.out (by first | assumption | (simp [*])))).mono ?_; rintro e w5 ⟨rfl, g5'⟩; have k5 : Hid (Below W.heap.size W w5) := hid_trans (by simp [*]) g5'; clear g5'))
  clear KS u0 u1
  go_wp2
  refine bodyPost_ret (v := .tuple #[.string (bs nm), .bool D]) (R := TxLn w T) (by simp [results, Tryd.results48, go_sem]) rfl ?_
  rw [HT.out]
  refine ⟨?_, HW.out.2.trans ((show Below W.heap.size W _ by first | exact k5.out | exact (hid_drew k5).out).mono HW.out.2.size)⟩
  cases D with
  | true => rfl
  | false => exact ⟨_, rfl⟩
theorem sideText_any (w : World) (hla : LaidP w) (d : List UInt8 × Int) (hr : rng d.2) (hl : d.1.length ≤ 140737488355320) : Calls Tryd.prog 48 #[.agg #[.string (bs d.1), .int .i64 d.2]] w (TxLn w (sideP d)) := by
  unfold sideP
  by_cases h1 : d.1 = []
  · rw [if_pos h1]; exact side_num w hla d h1 hr
  · rw [if_neg h1]
    by_cases h2 : d.2 = 0
    · have := side_name w hla d h1 h2 hl
      by_cases h3 : nameB d.1 = true
      · rw [if_pos h3] at this; rw [if_pos ⟨h2, h3⟩]; exact this
      · rw [if_neg h3] at this; rw [if_neg (fun h => h3 h.2)]; exact this
    · rw [if_neg (fun h => h2 h.1)]; exact side_nz w hla d h1 h2
/-! ### an input -/
abbrev inC (m : Inp) (A : Option Addr) (n c : Nat) : Obj := .cells #[.string (bs m.nm), .int .i64 m.pl, .slice A n c] 53
theorem idxSd0 (b o len c k : Nat) (h1 : k < len) (w : World) : (Instr.indexAt 51 (.slice (some ⟨b, o, none⟩) len c) (.int .i64 (k : Int))).run Tryd.prog w = .ok (.pointer (some ⟨b, o + k * 2, none⟩)) w := by
  have e := WideShapes.add_plain b o (k * 2)
  have h0 : (0 : Int) ≤ (k : Int) ∧ (k : Int) < (len : Int) := by omega
  go_simp
set_option maxHeartbeats 1600000 in
theorem input_bad (w : World) (hla : LaidP w) (m : Inp) (n : Nat) (A : Option Addr) (c : Nat) (hnm : nameB m.nm = false) (hb : m.nm.length ≤ 140737488355320) : Calls Tryd.prog 29 #[.agg #[.string (bs m.nm), .int .i64 m.pl, .slice A n c]] w (TxLn w none) := by
  have hW : Below w.heap.size w (w.alloc (inC m A n c)) := (Below.refl _ _).alloc (Nat.le_refl _) _
  have hname := name_any (bs m.nm) _ (hla.below hW) (by rw [bs_size]; exact hb)
  rw [bs_list, hnm] at hname
  have HM := Lib.hid hname
  have HW := Lib.hid hW
  clear hnm hb hname hla hW
  go_enter Tryd.func29, Tryd.ntmps29
  go_wp2_with fail
  refine HM.out.mono ?_
  rintro e w1 ⟨rfl, b1⟩
  have B1 := Lib.hid (HW.out.trans (b1.mono HW.out.size))
  clear b1
  go_wp2
  exact bodyPost_ret (v := .tuple #[.string ⟨#[]⟩, .bool false]) (R := TxLn w none) (by simp [results, Tryd.results29, go_sem]) rfl ⟨⟨_, rfl⟩, B1.out⟩
set_option maxHeartbeats 1600000 in
theorem input_many (w : World) (hla : LaidP w) (m : Inp) (n : Nat) (A : Option Addr) (c : Nat) (hnm : nameB m.nm = true) (hn : 4 < n) (hn2 : n ≤ 9223372036854775807) : Calls Tryd.prog 29 #[.agg #[.string (bs m.nm), .int .i64 m.pl, .slice A n c]] w (TxLn w none) := by
  have hW : Below w.heap.size w (w.alloc (inC m A n c)) := (Below.refl _ _).alloc (Nat.le_refl _) _
  have hname := name_any (bs m.nm) _ (hla.below hW) (by rw [bs_size]; have := nameB_le hnm; omega)
  rw [bs_list, hnm] at hname
  have HM := Lib.hid hname
  have HW := Lib.hid hW
  have hd : decide ((4 : Int) < (n : Int)) = true := decide_eq_true (by omega)
  clear hnm hname hla hW hn
  go_enter Tryd.func29, Tryd.ntmps29
  go_wp2_with fail
  refine HM.out.mono ?_
  rintro e w1 ⟨rfl, b1⟩
  have k1 : w1.heap[w.heap.size]? = some (inC m A n c) := (b1.block _ (by simp)).trans (heap_alloc_new w _)
  have k2 : w1.cell? ⟨w.heap.size, 2, none⟩ = some (.slice A n c) := by rw [cell_of_row _ _ _ _ _ _ k1]; rfl
  have B1 := Lib.hid (HW.out.trans (b1.mono HW.out.size))
  clear b1 k1
  go_wp2
  exact bodyPost_ret (v := .tuple #[.string ⟨#[]⟩, .bool false]) (R := TxLn w none) (by simp [results, Tryd.results29, go_sem]) rfl ⟨⟨_, rfl⟩, B1.out⟩
set_option maxHeartbeats 3200000 in
theorem input_ok (w : World) (hla : LaidP w) (m : Inp) (n : Nat) (A : Option Addr) (c : Nat) (hnm : nameB m.nm = true) (hl : m.sd.length = n) (hn : n ≤ 4) (h : SdU w A m.sd) (hb : InB m) (hc : n ≤ c) : Calls Tryd.prog 29 #[.agg #[.string (bs m.nm), .int .i64 m.pl, .slice A n c]] w (TxLn w ((sidesP m.sd).map fun t => [105, 110, 32] ++ m.nm ++ t)) := by
  have hW : Below w.heap.size w (w.alloc (inC m A n c)) := (Below.refl _ _).alloc (Nat.le_refl _) _
  have hname := name_any (bs m.nm) _ (hla.below hW) (by rw [bs_size]; have := nameB_le hnm; omega)
  rw [bs_list, hnm] at hname
  have HM := Lib.hid hname
  have HW := Lib.hid hW
  have HLA := Lib.hid hla
  have HB := Lib.hid (And.intro hl hb)
  have HI := Lib.hid h
  have hz : (bs m.nm).size ≤ 16 := by rw [bs_size]; exact nameB_le hnm
  have hnl := nameB_le hnm
  have hd : decide ((4 : Int) < (n : Int)) = false := decide_eq_false (by omega)
  obtain ⟨T, hT⟩ : ∃ T, T = (sidesP m.sd).map fun t => [105, 110, 32] ++ m.nm ++ t := ⟨_, rfl⟩
  rw [← hT]
  have HT := Lib.hid hT
  clear hnm hname hla hW hl hb h hT
  go_enter Tryd.func29, Tryd.ntmps29
  go_wp2_with fail
  refine HM.out.mono ?_
  rintro e w1 ⟨rfl, b1⟩
  have k1 : w1.heap[w.heap.size]? = some (inC m A n c) := (b1.block _ (by simp)).trans (heap_alloc_new w _)
  have k0 : w1.cell? ⟨w.heap.size, 0, none⟩ = some (.string (bs m.nm)) := by rw [cell_of_row _ _ _ _ _ _ k1]; rfl
  have k2 : w1.cell? ⟨w.heap.size, 2, none⟩ = some (.slice A n c) := by rw [cell_of_row _ _ _ _ _ _ k1]; rfl
  have B1 := Lib.hid (HW.out.trans (b1.mono HW.out.size))
  clear b1 k1
  go_wp2_with fail
  clear k0 k2
  go_loopw [25, 4] (fun i s wr => ∃ (j : Nat) (acc S : List UInt8), j ≤ n ∧ i = .int .i64 j ∧ s = .string (bs S) ∧ S.length ≤ 19 + 22 * j ∧ Hid (S = [105, 110, 32] ++ m.nm ++ acc) ∧ Hid (sidesP (m.sd.take j) = some acc ∧ Below w.heap.size w wr)) (fun i _ _ => n - (intOf i).toNat)
  case atStart => exact ⟨0, [], [105, 110, 32] ++ m.nm, by omega, rfl, by rw [show (⟨#[105, 110, 32]⟩ : ByteArray) = bs [105, 110, 32] from rfl, cat_bs], by simp only [List.length_append, List.length_cons, List.length_nil]; omega, (List.append_nil _).symm, rfl, B1.out⟩
  case round =>
    obtain ⟨j, acc, S, hj, rfl, rfl, hacc, HSS, HR⟩ := hrel
    have hza : (bs S).size ≤ 200 := by rw [bs_size]; omega
    by_cases hlt : j < n
    · obtain ⟨x, hx⟩ : ∃ x, x = m.sd.getD j default := ⟨_, rfl⟩
      have hjl : j < m.sd.length := by rw [HB.out.1]; exact hlt
      have hxb : x.1.length ≤ 140737488355320 ∧ rng x.2 := by
        rw [hx, List.getD_eq_getElem?_getD, List.getElem?_eq_getElem hjl]; exact HB.out.2.sd _ (List.getElem_mem hjl)
      obtain ⟨b, o, rfl, lb, hi⟩ := HI.out (by omega)
      obtain ⟨a0, a1⟩ := hi j hjl
      rw [← hx] at a0 a1
      have u0 : wr.cell? ⟨b, o + j * 2, none⟩ = some (.string (bs x.1)) := (cell_below HR.out.2 lb _).trans a0
      have u1 : wr.cell? ⟨b, o + j * 2 + 1, none⟩ = some (.int .i64 x.2) := (cell_below HR.out.2 lb _).trans a1
      have q1 := idxSd0 b o n c j hlt
      have HXX := Lib.hid (And.intro hx (And.intro hjl hxb))
      have hbr := HR.out.2.size
      clear a0 a1 hi hx hjl hxb
      go_wp2_with fail
      have hWx : Below wr.heap.size wr (wr.alloc (sdC x)) := (Below.refl _ _).alloc (Nat.le_refl _) _
      refine (sideText_any _ (HLA.out.below (HR.out.2.trans (hWx.mono hbr))) x HXX.out.2.2.2 HXX.out.2.2.1).mono ?_
      rintro e w2 ⟨he, b2⟩
      have B2 := Lib.hid ((HR.out.2.trans (hWx.mono hbr)).trans (b2.mono (Nat.le_trans hbr hWx.size)))
      clear b2 hWx
      cases hsp : sideP x with
      | none =>
        rw [hsp] at he
        obtain ⟨s, rfl⟩ := he
        have HF := Lib.hid (show TxLn w T (.returned (.tuple #[.string ⟨#[]⟩, .bool false])) w2 from ⟨by rw [HT.out, sides_stop HXX.out.2.1 (by rw [← HXX.out.1]; exact hsp)]; exact ⟨_, rfl⟩, B2.out⟩)
        clear hsp u0 u1 q1
        go_wp2
        exact bodyPost_ret (v := .tuple #[.string ⟨#[]⟩, .bool false]) (R := TxLn w T) (by simp [results, Tryd.results29, go_sem]) rfl HF.out
      | some s =>
        rw [hsp] at he
        subst he
        have hsl := sideP_len hsp HXX.out.2.2.2
        have hzs : (bs s).size ≤ 21 := by rw [bs_size]; exact hsl
        have HN := Lib.hid (sides_go HXX.out.2.1 HR.out.1 (by rw [← HXX.out.1]; exact hsp))
        clear hsp u0 u1 q1
        go_wp2
        go_roundw
        case rel =>
          refine ⟨j + 1, acc ++ 32 :: s, S ++ 32 :: s, by omega, by go_num, ?_, by simp only [List.length_append, List.length_cons]; omega, ?_, HN.out, B2.out⟩
          · rw [show (⟨#[32]⟩ : ByteArray) = bs [32] from rfl, cat_bs, cat_bs]; rfl
          · show S ++ 32 :: s = _
            rw [HSS.out, List.append_assoc]
        case measure => simp [intOf]; omega
    · obtain rfl : j = n := by omega
      have hrun := HR.out.1
      rw [List.take_of_length_le (by rw [HB.out.1]; exact Nat.le_refl _)] at hrun
      have HF := Lib.hid (show TxLn w T (.returned (.tuple #[.string (bs S), .bool true])) wr from ⟨by rw [HT.out, hrun, HSS.out]; rfl, HR.out.2⟩)
      clear hrun
      go_wp2
      exact bodyPost_ret (v := .tuple #[.string (bs S), .bool true]) (R := TxLn w T) (by simp [results, Tryd.results29, go_sem]) rfl HF.out
theorem inputText_any (w : World) (hla : LaidP w) (m : Inp) (n : Nat) (A : Option Addr) (c : Nat) (hl : m.sd.length = n) (h : SdU w A m.sd) (hb : InB m) (hc : n ≤ c) : Calls Tryd.prog 29 #[.agg #[.string (bs m.nm), .int .i64 m.pl, .slice A n c]] w (TxLn w (inputP m)) := by
  unfold inputP
  by_cases h1 : nameB m.nm = false
  · rw [if_pos (.inl h1)]; exact input_bad w hla m n A c h1 hb.nm
  have h1 : nameB m.nm = true := by simpa using h1
  by_cases h2 : 4 < n
  · rw [if_pos (.inr (by rw [hl]; exact h2))]; exact input_many w hla m n A c h1 h2 (by rw [← hl]; exact hb.len)
  · rw [if_neg (fun h => h.elim (fun h => by rw [h1] at h; cases h) (fun h => h2 (by rw [← hl]; exact h)))]
    exact input_ok w hla m n A c h1 hl (by omega) h hb hc
end Go.Proofs.YtbapgdhcbfpdoaaDoor
