/- Layer 4, put together: TopA, ShwP, ShrA, ShrB. -/
import Derived.Test.YtbapgdhcbfpdoaaGreatDoorYSa
import Derived.Test.YtbapgdhcbfpdoaaGreatDoorYLf
import Derived.Test.YtbapgdhcbfpdoaaGreatDoorYSd
import Derived.Test.YtbapgdhcbfpdoaaGreatDoorZPb
import Derived.Deep.AppendLies
import Derived.Test.YtbapgdhcbfpdoaaGreatDoorYPv
import Derived.Test.YtbapgdhcbfpdoaaGreatDoorYSo
/- What is cut out of a text has texts; the same tokens are the same program, places apart. -/
namespace Go.Proofs.YtbapgdhcbfpdoaaGreatDoor
open Go.RowKit
set_option linter.unusedVariables false
theorem pc_num2 {n : Int} (h : rng n) : ∃ b r, digs n = b :: r ∧ piece b r = .tok 2 [] n r.length := by
  have hd := dec_dig n.natAbs
  have hm := mag_dec n.natAbs n.natAbs (Nat.le_refl _)
  have hfull : ∀ l : List UInt8, (∀ c ∈ l, digB c = true) → run digB l = l.length := fun l hl => run_full digB l hl
  unfold digs
  by_cases h0 : n < 0
  · rw [if_pos h0]
    refine ⟨_, _, rfl, ?_⟩
    have hne := dec_ne n.natAbs
    have hp : 0 < run digB (Lib.decDigits n.natAbs) := by rw [hfull _ hd]; exact List.length_pos_iff.2 hne
    unfold piece
    rw [if_neg (by decide), if_neg (by decide), if_neg (by decide), if_neg (by decide), if_neg (by decide), if_pos ⟨by decide, hp⟩, hfull _ hd, List.take_length]
    unfold numR
    rw [if_pos rfl, hm, if_pos (by have := h.1; omega)]
    show Pc.tok 2 [] _ _ = _
    congr 1
    omega
  · rw [if_neg h0]
    cases hl : Lib.decDigits n.natAbs with
    | nil => exact (dec_ne _ hl).elim
    | cons b r =>
      rw [hl] at hd hm
      obtain ⟨n1, n2, n3, n4⟩ := dig_no (hd b (by simp))
      refine ⟨_, _, rfl, ?_⟩
      unfold piece
      rw [if_neg (by rw [n1]; decide), if_neg n2, if_neg n3, if_neg (by rw [n4]; decide), if_pos (hd b (by simp)), hfull r (fun c hc => hd c (by simp [hc])), List.take_length]
      unfold numR
      rw [if_neg (by decide), hm, if_pos (by have := h.2; omega)]
      show Pc.tok 2 [] _ _ = _
      congr 1
      omega
theorem sp_dig2 {n : Int} (h : rng n) (a : Int) : Sp ⟨2, a, [], n⟩ := by
  obtain ⟨b, r, h1, h2⟩ := pc_num2 h
  obtain ⟨h3, h4⟩ := digs_head h1
  have h5 := digs_len h.1 h.2
  rw [h1] at h5
  simp only [List.length_cons] at h5
  exact ⟨b, r, h1, by omega, h3, h4, h2⟩
/-! ### the same tokens -/
/-! ### tokens, blanks between them -/
def SpJ (bl : List UInt8) (us : List Tk) : Prop := ∀ (r : List UInt8) (a : Int), lexL (bl ++ r) a = Rs.pre (us.map (mv a)) (lexL r (a + bl.length))
theorem SpJ.nil : SpJ [] [] := fun r a => by simp [pre_nil]
theorem SpJ.snoc {bl : List UInt8} {us : List Tk} (h : SpJ bl us) {t : Tk} (ht : Sp t) : SpJ (bl ++ txt t ++ [32]) (us ++ [{ t with a := bl.length }]) := fun r a => by
  rw [List.append_assoc, List.append_assoc, h, List.singleton_append, lex_spelled ht, pre_pre, List.map_append]
  have e : Go.Proofs.YtbapgdhcbfpdoaaGreatDoor.mv a { t with a := bl.length } = { t with a := a + bl.length } := by unfold mv; simp; omega
  rw [List.map_cons, List.map_nil, e]
  congr 2
  simp
  omega
theorem SpJ.blank {bl : List UInt8} {us : List Tk} (h : SpJ bl us) : SpJ (bl ++ [32]) us := fun r a => by
  rw [List.append_assoc, h, List.singleton_append, lex_skip (show piece 32 r = .skip 0 from rfl)]
  congr 2
  simp
  omega
theorem SpJ.read {bl : List UInt8} {us : List Tk} (h : SpJ bl us) (hl : bl.length ≤ 65536) : lexR bl = .ok us := by
  have h1 := h [] 0
  rw [List.append_nil, lex_nil] at h1
  unfold lexR
  rw [if_neg (by omega), h1]
  have e : us.map (mv 0) = us := by
    have : ∀ t : Tk, mv 0 t = t := fun t => by unfold mv; simp
    rw [show (mv 0) = id from funext this, List.map_id]
  rw [e]; simp [Rs.pre]
end Go.Proofs.YtbapgdhcbfpdoaaGreatDoor
/- Own rows of values' texts, the document's (Part: four cells). -/
namespace Go.Proofs.YtbapgdhcbfpdoaaGreatDoor
open Go.RowKit
set_option linter.unusedVariables false
def ptC (p : Pt) : List Value := [.string (bs p.s), .bool p.pl, .int .i64 p.tk, .int .i64 p.ne]
theorem ptC_len : ∀ l : List Pt, (l.flatMap ptC).length = l.length * 4
  | [] => rfl
  | p :: r => by rw [List.flatMap_cons, List.length_append, ptC_len r]; simp only [ptC, List.length_cons, List.length_nil]; omega
theorem infoPt : (Tryz.prog.info? 92).map (fun i => (i.zero, i.size, i.bytes)) = some (some (.agg #[.string ⟨#[]⟩, .bool false, .int .i64 0, .int .i64 0]), 4, 40) := by kernel_rfl
theorem ptC_at : ∀ (l : List Pt) (k j : Nat), k < l.length → j < 4 → (l.flatMap ptC)[k * 4 + j]? = (ptC (l.getD k default))[j]?
  | p :: r, 0, j, _, hj => by
    rw [List.flatMap_cons, Nat.zero_mul, Nat.zero_add, List.getElem?_append_left (by simpa [ptC] using hj)]; rfl
  | p :: r, k + 1, j, hk, hj => by
    have h1 : (ptC p).length = 4 := rfl
    rw [List.flatMap_cons, List.getElem?_append_right (by omega), h1, show (k + 1) * 4 + j - 4 = k * 4 + j by omega]
    exact ptC_at r k j (by simpa using hk) hj
theorem ptC_one (l : List Pt) : ∀ u ∈ l.flatMap ptC, u.oneCell' = true := by
  intro u hu
  obtain ⟨p, _, hp⟩ := List.mem_flatMap.1 hu
  simp only [ptC, List.mem_cons, List.not_mem_nil, or_false] at hp
  rcases hp with rfl | rfl | rfl | rfl <;> rfl
def OP (w : World) (B : Nat) (v : Value) (l : List Pt) : Prop := w.ownsRow B 92 4 v l.length (l.flatMap ptC)
theorem OP.nil (w : World) (B : Nat) : OP w B (.slice none 0 0) [] := World.ownsRow_nil w B _ _
theorem OP.shape {w : World} {B : Nat} {v : Value} {l : List Pt} (h : OP w B v l) : ∃ A c, v = .slice A l.length c ∧ l.length ≤ c := row_shape h
theorem OP.below {w w' : World} {B : Nat} {v : Value} {l : List Pt} (h : OP w B v l) (hb : Below w.heap.size w w') : OP w' B v l := row_keep h (fun k hk hl => hb.block k hl) (Nat.le_refl _)
theorem OP.base {w : World} {B B' : Nat} {v : Value} {l : List Pt} (h : OP w B v l) (hB : B' ≤ B) : OP w B' v l := row_keep h (fun _ _ _ => rfl) hB
theorem OP.take {w : World} {B : Nat} {A : Option Addr} {c : Nat} {l r : List Pt} (h : OP w B (.slice A (l ++ r).length c) (l ++ r)) : OP w B (.slice A l.length c) l := by
  unfold OP at h
  rw [List.flatMap_append] at h
  exact row_pop h (ptC_len l) (by simp)
theorem OP.cells {w : World} {B : Nat} {v : Value} {l : List Pt} (h : OP w B v l) (k : Nat) (hk : k < l.length) : ∃ g c, v = .slice (some ⟨g, 0, none⟩) l.length c ∧ l.length ≤ c ∧ g < w.heap.size ∧ B ≤ g ∧
    w.cell? ⟨g, k * 4, none⟩ = some (.string (bs (l.getD k default).s)) ∧ w.cell? ⟨g, k * 4 + 1, none⟩ = some (.bool (l.getD k default).pl) ∧ w.cell? ⟨g, k * 4 + 2, none⟩ = some (.int .i64 (l.getD k default).tk) ∧ w.cell? ⟨g, k * 4 + 3, none⟩ = some (.int .i64 (l.getD k default).ne) := by
  have hlen := ptC_len l
  obtain ⟨g, c, rfl, hB, hg⟩ := World.ownsRow.form h (by omega)
  have hc : l.length ≤ c := by
    obtain ⟨_, _, e, hc⟩ := row_shape h
    injection e with _ _ e3
    subst e3
    exact hc
  have hat := fun j (hj : j < 4) => (World.ownsRow.cellAt h (k * 4 + j) (by have := hk; have := hlen; omega)).trans (ptC_at l k j hk hj)
  exact ⟨g, c, rfl, hc, hg, hB, hat 0 (by decide), hat 1 (by decide), hat 2 (by decide), hat 3 (by decide)⟩
end Go.Proofs.YtbapgdhcbfpdoaaGreatDoor
/- The document's words, verb, number (layer 5). -/
namespace Go.Proofs.YtbapgdhcbfpdoaaGreatDoor
open Go.RowKit
set_option linter.unusedVariables false
set_option maxRecDepth 100000
def wordsC : Array Value := (wordsL.map fun s => Value.string (bs s)).toArray
theorem words5_any (w : World) : Calls Tryz.prog 84 #[] w fun e w' => e = .returned (.slice (some ⟨w.heap.size, 0, none⟩) 25 25) ∧ w' = w.alloc (.cells wordsC 9) := by
  go_enter Tryz.func84, Tryz.ntmps84
  go_wp2
  go_ret
  exact ⟨rfl, rfl⟩
theorem wordsC_at (k : Nat) (hk : k < 25) : wordsC[k]? = some (.string (bs (wordsL.getD k []))) := by
  have h : ∀ k, k < 25 → (wordsL.map fun s => Value.string (bs s))[k]? = some (.string (bs (wordsL.getD k []))) := fun k hk => by
    have hl : k < wordsL.length := hk
    rw [List.getElem?_map, List.getD_eq_getElem?_getD, List.getElem?_eq_getElem hl]; rfl
  unfold wordsC
  rw [List.getElem?_toArray]
  exact h k hk
theorem verbIn_drop {f : Int} {two : Bool} {k : Nat} (hk : k < 25) : verbIn (wordsL.drop k) f two = if (verbR (wordsL.getD k []) two != 0) && (verbR (wordsL.getD k []) two == f) then wordsL.getD k [] else verbIn (wordsL.drop (k + 1)) f two := by
  have hl : k < wordsL.length := hk
  rw [List.drop_eq_getElem_cons hl, List.getD_eq_getElem?_getD, List.getElem?_eq_getElem hl]
  rfl
theorem verbIn_end {f : Int} {two : Bool} : verbIn (wordsL.drop 25) f two = [] := rfl
theorem idxS5 (b o len c k : Nat) (h1 : k < len) (w : World) : (Instr.indexAt 129 (.slice (some ⟨b, o, none⟩) len c) (.int .i64 (k : Int))).run Tryz.prog w = .ok (.pointer (some ⟨b, o + k, none⟩)) w := by
  have e := WideShapes.add_plain b o (k * 1)
  have h0 : (0 : Int) ≤ (k : Int) ∧ (k : Int) < (len : Int) := by omega
  go_simp
set_option maxHeartbeats 1600000 in
theorem verb5_any (f : Int) (two : Bool) (w : World) : Calls Tryz.prog 63 #[.int .u8 f, .bool two] w fun e w' => e = .returned (.string (bs (verbW f two))) ∧ Below w.heap.size w w' := by
  go_enter Tryz.func63, Tryz.ntmps63
  go_wp2_with fail
  refine (words5_any w).mono ?_
  rintro e W1 ⟨rfl, hW1⟩
  have B1 := Lib.hid (show Below w.heap.size w W1 by rw [hW1]; exact (Below.refl _ _).alloc (Nat.le_refl _) _)
  have HC := Lib.hid (show ∀ k, k < 25 → W1.cell? ⟨w.heap.size, k, none⟩ = some (.string (bs (wordsL.getD k []))) from fun k hk => by
    rw [hW1, cell_of_row _ _ _ _ _ _ (heap_alloc_new w _)]
    exact wordsC_at k hk)
  have hl : w.heap.size < W1.heap.size := by rw [hW1]; simp
  have HW0 : ∃ g, g = w.heap.size := ⟨_, rfl⟩
  obtain ⟨g, hg⟩ := HW0
  rw [← hg] at HC hl ⊢
  have HG := Lib.hid hg
  clear hW1 hg
  go_wp2_with fail
  go_loopw [6] (fun i wr => ∃ k : Nat, k ≤ 25 ∧ i = .int .i64 k ∧ Hid (verbIn (wordsL.drop k) f two = verbW f two ∧ Below W1.heap.size W1 wr)) (fun i _ => 25 - (intOf i).toNat)
  case atStart => exact ⟨0, by omega, rfl, rfl, Below.refl _ _⟩
  case round =>
    obtain ⟨k, hk, rfl, HI⟩ := hrel
    by_cases hlt : k < 25
    · obtain ⟨x, hx⟩ : ∃ x, x = wordsL.getD k [] := ⟨_, rfl⟩
      obtain ⟨z, hz⟩ : ∃ z, z = verbR x two := ⟨_, rfl⟩
      have u0 := fun j => (show (wr.drewN j).cell? ⟨g, k, none⟩ = some (.string (bs x)) from (cell_below HI.out.2 hl _).trans (by rw [hx]; exact HC.out k hlt))
      have u00 : wr.cell? ⟨g, k, none⟩ = some (.string (bs x)) := u0 0
      have q1 := idxS5 g 0 25 25 k hlt
      have hv := HI.out.1
      rw [verbIn_drop hlt, ← hx, ← hz] at hv
      have HV := Lib.hid hv
      have HZ := Lib.hid hz
      have hbr := HI.out.2.size
      clear hx hv hz
      go_wp2_with fail
      refine (rverb_any x two wr).mono ?_
      rintro e w2 ⟨rfl, rfl⟩
      rw [← HZ.out]
      by_cases hb : z = 0
      · have t0 : (z != 0) = false := by rw [hb]; rfl
        rw [t0]
        have HV2 := Lib.hid (show verbIn (wordsL.drop (k + 1)) f two = verbW f two by have := HV.out; rw [t0] at this; exact this)
        go_wp2
        go_roundw
        case rel => exact ⟨k + 1, by omega, by go_num, HV2.out, HI.out.2⟩
        case measure => simp [intOf]; omega
      · have t0 : (z != 0) = true := by simpa using hb
        rw [t0]
        by_cases hf : z = f
        · have t1 : (z == f) = true := by simpa using hf
          have HV2 := Lib.hid (show x = verbW f two by have := HV.out; rw [t0, t1] at this; exact this)
          clear hb hf
          go_wp2
          go_ret
          exact ⟨by rw [← HV2.out]; rfl, B1.out.trans (HI.out.2.mono B1.out.size)⟩
        · have t1 : (z == f) = false := by simpa using hf
          have HV2 := Lib.hid (show verbIn (wordsL.drop (k + 1)) f two = verbW f two by have := HV.out; rw [t0, t1] at this; exact this)
          clear hb hf
          go_wp2
          go_roundw
          case rel => exact ⟨k + 1, by omega, by go_num, HV2.out, HI.out.2⟩
          case measure => simp [intOf]; omega
    · obtain rfl : k = 25 := by omega
      have HV2 := Lib.hid (show [] = verbW f two from HI.out.1)
      go_wp2
      go_ret
      exact ⟨by rw [← HV2.out]; rfl, B1.out.trans (HI.out.2.mono B1.out.size)⟩
theorem number5_any (n : Int) (w : World) (h : rng n) : Calls Tryz.prog 42 #[.int .i64 n] w fun e w' => e = .returned (.string (bs (digs n))) ∧ Below w.heap.size w w' := by
  have hsp := fun W => rspell_any ⟨2, 0, [], n⟩ W ⟨⟨h.1, h.2⟩, Nat.zero_le _⟩
  unfold SpRes at hsp
  rw [sp_yes (sp_dig2 h 0)] at hsp
  have hsp : ∀ W, Calls Tryz.prog 44 #[.agg #[.int .i64 2, .int .i64 0, .string ⟨#[]⟩, .int .i64 n]] W fun e w' => e = .returned (.tuple #[.string (bs (digs n)), .bool true]) ∧ Below W.heap.size W w' := hsp
  have HS := Lib.hid hsp
  clear hsp h
  go_enter Tryz.func42, Tryz.ntmps42
  go_wp2_with (go_at_call 44; refine (HS.out _).mono ?_; rintro e w1 ⟨rfl, b1⟩; have B1 := Lib.hid b1; clear b1)
  go_ret
  exact ⟨rfl, B1.out⟩
end Go.Proofs.YtbapgdhcbfpdoaaGreatDoor
/- The document's operand and brackets (layer 5). -/
namespace Go.Proofs.YtbapgdhcbfpdoaaGreatDoor
open Go.RowKit
set_option linter.unusedVariables false
set_option linter.unusedSimpArgs false
set_option maxRecDepth 100000
def partV (p : Pt) : Value := .agg #[.string (bs p.s), .bool p.pl, .int .i64 p.tk, .int .i64 p.ne]
def PtRes (w : World) (p : Pt) (e : Ending) (w' : World) : Prop := e = .returned (partV p) ∧ Below w.heap.size w w'

theorem opd_fnz {x : It} (h : x.fn ≠ 0) : opdP x = ⟨[], false, 0, 0⟩ := by unfold opdP; rw [if_pos h]
theorem opd_nmz {x : It} (h0 : x.fn = 0) (h1 : x.how = 2) (h2 : 0 < x.ns.length ∨ nameB x.nm = false) : opdP x = ⟨[], false, 0, 0⟩ := by unfold opdP; rw [if_neg (by simpa using h0), if_pos h1, if_pos h2]
theorem opd_nm {x : It} (h0 : x.fn = 0) (h1 : x.how = 2) (h2 : x.ns.length = 0) (h3 : nameB x.nm = true) : opdP x = ⟨x.nm, true, 1, 0⟩ := by unfold opdP; rw [if_neg (by simpa using h0), if_pos h1, if_neg (fun h => h.elim (fun h => by omega) fun h => by rw [h3] at h; cases h)]
theorem opd_nsz {x : It} (h0 : x.fn = 0) (h1 : x.how ≠ 2) (h2 : x.nm ≠ [] ∨ 256 < x.ns.length) : opdP x = ⟨[], false, 0, 0⟩ := by unfold opdP; rw [if_neg (by simpa using h0), if_neg h1, if_pos h2]
theorem opd_ns {x : It} (h0 : x.fn = 0) (h1 : x.how ≠ 2) (h2 : x.nm = []) (h3 : x.ns.length ≤ 256) : opdP x = ⟨numsT x.ns, true, x.ns.length, 0⟩ := by unfold opdP; rw [if_neg (by simpa using h0), if_neg h1, if_neg (fun h => h.elim (fun h => h h2) fun h => by omega)]
def opC (w : World) (x : It) (A : Option Addr) (c : Nat) : World := (w.alloc (.cells #[.int .i64 x.how, .int .i64 x.pl, .int .u8 x.fn, .string (bs x.nm), .slice A x.ns.length c] 37)).alloc (.cells #[.string ⟨#[]⟩, .bool false, .int .i64 0, .int .i64 0] 92)
theorem opC_bel (w : World) (x : It) (A : Option Addr) (c : Nat) : Below w.heap.size w (opC w x A c) := ((Below.refl _ _).alloc (Nat.le_refl _) _).trans (((Below.refl _ _).alloc (Nat.le_refl _) _).mono (by simp))
theorem opd_fn5 (x : It) (A : Option Addr) (c : Nat) (w : World) (h : x.fn ≠ 0) : Calls Tryz.prog 62 #[itX x A c] w (PtRes w (opdP x)) := by
  rw [opd_fnz h]
  have h0 : (x.fn != 0) = true := by simpa using h
  unfold itX itW
  clear h
  go_enter Tryz.func62, Tryz.ntmps62
  go_wp2
  refine bodyPost_ret (v := partV ⟨[], false, 0, 0⟩) (R := PtRes w ⟨[], false, 0, 0⟩) (by simp [results, Tryz.results62, go_sem]; rfl) rfl ?_
  exact ⟨rfl, opC_bel w x A c⟩
theorem opd_nm5 (x : It) (A : Option Addr) (c : Nat) (w : World) (h : x.fn = 0) (h1 : x.how = 2) (h2 : 0 < x.ns.length) (hl : x.ns.length ≤ 9223372036854775807) : Calls Tryz.prog 62 #[itX x A c] w (PtRes w (opdP x)) := by
  rw [opd_nmz h h1 (.inl h2)]
  unfold itX itW
  rw [h, h1]
  obtain ⟨n, hn⟩ : ∃ n, n = x.ns.length := ⟨_, rfl⟩
  have hC := Lib.hid (show opC w x A c = opC w x A c from rfl)
  have hB := opC_bel w x A c
  unfold opC at hB
  rw [h, h1] at hB
  rw [← hn] at hB h2 hl ⊢
  have HB := Lib.hid hB
  clear h h1 hn hB hC
  go_enter Tryz.func62, Tryz.ntmps62
  go_wp2
  refine bodyPost_ret (v := partV ⟨[], false, 0, 0⟩) (R := PtRes w ⟨[], false, 0, 0⟩) (by simp [results, Tryz.results62, go_sem]; rfl) rfl ?_
  exact ⟨rfl, HB.out⟩
def pt4 (W : World) (k : Nat) (p : Pt) : World := (((W.setCell ⟨k, 0, none⟩ (.string (bs p.s))).setCell ⟨k, 1, none⟩ (.bool p.pl)).setCell ⟨k, 2, none⟩ (.int .i64 p.tk)).setCell ⟨k, 3, none⟩ (.int .i64 p.ne)
theorem pt4_bel (W : World) (k : Nat) (p : Pt) : Below k W (pt4 W k p) := (((set_bel W k 0 _).trans (set_bel _ k 1 _)).trans (set_bel _ k 2 _)).trans (set_bel _ k 3 _)
theorem pt4_at {W : World} {k : Nat} {p : Pt} {x y z u : Value} (h : W.heap[k]? = some (.cells #[x, y, z, u] 92 (0, 0))) :
    (pt4 W k p).cell? ⟨k, 0, none⟩ = some (.string (bs p.s)) ∧ (pt4 W k p).cell? ⟨k, 1, none⟩ = some (.bool p.pl) ∧ (pt4 W k p).cell? ⟨k, 2, none⟩ = some (.int .i64 p.tk) ∧ (pt4 W k p).cell? ⟨k, 3, none⟩ = some (.int .i64 p.ne) := by
  have h1 : (pt4 W k p).heap[k]? = some (.cells #[.string (bs p.s), .bool p.pl, .int .i64 p.tk, .int .i64 p.ne] 92 (0, 0)) := by
    unfold pt4
    rw [heap_setCell_same _ _ _ _ _ _ (heap_setCell_same _ _ _ _ _ _ (heap_setCell_same _ _ _ _ _ _ (heap_setCell_same _ _ _ _ _ _ h)))]; rfl
  refine ⟨?_, ?_, ?_, ?_⟩ <;> · rw [cell_of_row _ _ _ _ _ _ h1]; rfl
structure PBox (w W : World) (k : Nat) : Prop where
  at_ : ∃ x y z u, W.heap[k]? = some (.cells #[x, y, z, u] 92 (0, 0))
  bel : Below w.heap.size w W
  lt : w.heap.size ≤ k
theorem PBox.next {w W W' : World} {k : Nat} (h : PBox w W k) (b : Below W.heap.size W W') : PBox w W' k := by
  obtain ⟨x, y, z, u, e⟩ := h.at_
  exact ⟨⟨x, y, z, u, (b.block _ (heap_lt e)).trans e⟩, h.bel.trans (b.mono h.bel.size), h.lt⟩
theorem PBox.frz {w W : World} {k : Nat} (h : PBox w W k) : W.frozen? ⟨k, 0, none⟩ = false ∧ W.frozen? ⟨k, 1, none⟩ = false ∧ W.frozen? ⟨k, 2, none⟩ = false ∧ W.frozen? ⟨k, 3, none⟩ = false ∧ ∃ x y z u, W.cell? ⟨k, 0, none⟩ = some x ∧ W.cell? ⟨k, 1, none⟩ = some y ∧ W.cell? ⟨k, 2, none⟩ = some z ∧ W.cell? ⟨k, 3, none⟩ = some u := by
  obtain ⟨x, y, z, u, e⟩ := h.at_
  refine ⟨frozen_of_row _ _ 0 _ _ e, frozen_of_row _ _ 1 _ _ e, frozen_of_row _ _ 2 _ _ e, frozen_of_row _ _ 3 _ _ e, x, y, z, u, ?_, ?_, ?_, ?_⟩ <;> · rw [cell_of_row _ _ _ _ _ _ e]; rfl
theorem PBox.fin {w W : World} {k : Nat} (h : PBox w W k) (p : Pt) : ((pt4 W k p).cell? ⟨k, 0, none⟩ = some (.string (bs p.s)) ∧ (pt4 W k p).cell? ⟨k, 1, none⟩ = some (.bool p.pl) ∧ (pt4 W k p).cell? ⟨k, 2, none⟩ = some (.int .i64 p.tk) ∧ (pt4 W k p).cell? ⟨k, 3, none⟩ = some (.int .i64 p.ne)) ∧ Below w.heap.size w (pt4 W k p) := by
  obtain ⟨x, y, z, u, e⟩ := h.at_
  exact ⟨pt4_at e, h.bel.trans ((pt4_bel W k p).mono h.lt)⟩
theorem PBox.opC (w : World) (x : It) (A : Option Addr) (c : Nat) : PBox w (opC w x A c) (w.heap.size + 1) := ⟨⟨_, _, _, _, box2 w _ _⟩, opC_bel w x A c, Nat.le_succ _⟩
theorem opC_at (w : World) (x : It) (A : Option Addr) (c : Nat) : (Go.Proofs.YtbapgdhcbfpdoaaGreatDoor.opC w x A c).heap[w.heap.size]? = some (.cells #[.int .i64 x.how, .int .i64 x.pl, .int .u8 x.fn, .string (bs x.nm), .slice A x.ns.length c] 37 (0, 0)) := box1 w _ _
theorem opd_nb5 (x : It) (A : Option Addr) (c : Nat) (w : World) (h : x.fn = 0) (h1 : x.how = 2) (h2 : x.ns.length = 0) (h3 : nameB x.nm = false) (hl : x.nm.length ≤ 140737488355320) : Calls Tryz.prog 62 #[itX x A c] w (PtRes w (opdP x)) := by
  rw [opd_nmz h h1 (.inr h3)]
  have hnm := fun W => rname_any x.nm W hl
  rw [h3] at hnm
  have hB := PBox.opC w x A c
  unfold opC at hB
  unfold itX itW
  rw [h, h1, h2] at hB ⊢
  have HB := Lib.hid hB
  have HM := Lib.hid hnm
  clear h h1 h2 h3 hB hnm
  go_enter Tryz.func62, Tryz.ntmps62
  go_wp2_with fail
  refine (HM.out _).mono ?_
  rintro e w1 ⟨rfl, b1⟩
  have PB := Lib.hid (HB.out.next b1)
  clear b1
  have HP4 := Lib.hid (show (((w1.setCell ⟨w.heap.size + 1, 0, none⟩ (.string ⟨#[]⟩)).setCell ⟨w.heap.size + 1, 1, none⟩ (.bool false)).setCell ⟨w.heap.size + 1, 2, none⟩ (.int .i64 0)).setCell ⟨w.heap.size + 1, 3, none⟩ (.int .i64 0) = pt4 w1 (w.heap.size + 1) ⟨[], false, 0, 0⟩ from rfl)
  obtain ⟨z1, z2, z3, z4, _, _, _, _, z5, z6, z7, z8⟩ := PB.out.frz
  go_wp2_with fail
  rw [HP4.out]
  obtain ⟨⟨j0, j1, j2, j3⟩, hbel⟩ := PB.out.fin ⟨[], false, 0, 0⟩
  refine bodyPost_ret (v := partV ⟨[], false, 0, 0⟩) (R := PtRes w ⟨[], false, 0, 0⟩) (by simp [results, Tryz.results62, go_sem, j0, j1, j2, j3]; rfl) rfl ⟨rfl, hbel⟩
theorem opd_nm6 (x : It) (A : Option Addr) (c : Nat) (w : World) (h : x.fn = 0) (h1 : x.how = 2) (h2 : x.ns.length = 0) (h3 : nameB x.nm = true) (hl : x.nm.length ≤ 140737488355320) : Calls Tryz.prog 62 #[itX x A c] w (PtRes w (opdP x)) := by
  rw [opd_nm h h1 h2 h3]
  have hnm := fun W => rname_any x.nm W hl
  rw [h3] at hnm
  have hB := PBox.opC w x A c
  have hA := opC_at w x A c
  unfold opC at hB hA
  unfold itX itW
  rw [h, h1, h2] at hB hA ⊢
  have HB := Lib.hid hB
  have HM := Lib.hid hnm
  have HA := Lib.hid hA
  clear h h1 h2 h3 hB hnm hA
  go_enter Tryz.func62, Tryz.ntmps62
  go_wp2_with fail
  refine (HM.out _).mono ?_
  rintro e w1 ⟨rfl, b1⟩
  have PB := Lib.hid (HB.out.next b1)
  have y3 : w1.cell? ⟨w.heap.size, 3, none⟩ = some (.string (bs x.nm)) := by rw [cell_of_row _ _ _ _ _ _ ((b1.block _ (by simp; omega)).trans HA.out)]; rfl
  clear b1
  have HP4 := Lib.hid (show (((w1.setCell ⟨w.heap.size + 1, 0, none⟩ (.string (bs x.nm))).setCell ⟨w.heap.size + 1, 1, none⟩ (.bool true)).setCell ⟨w.heap.size + 1, 2, none⟩ (.int .i64 1)).setCell ⟨w.heap.size + 1, 3, none⟩ (.int .i64 0) = pt4 w1 (w.heap.size + 1) ⟨x.nm, true, 1, 0⟩ from rfl)
  obtain ⟨z1, z2, z3, z4, _, _, _, _, z5, z6, z7, z8⟩ := PB.out.frz
  go_wp2_with fail
  rw [HP4.out]
  obtain ⟨⟨j0, j1, j2, j3⟩, hbel⟩ := PB.out.fin ⟨x.nm, true, 1, 0⟩
  refine bodyPost_ret (v := partV ⟨x.nm, true, 1, 0⟩) (R := PtRes w ⟨x.nm, true, 1, 0⟩) (by simp [results, Tryz.results62, go_sem, j0, j1, j2, j3]; rfl) rfl ⟨rfl, hbel⟩
theorem opd_nz5 (x : It) (A : Option Addr) (c : Nat) (w : World) (h : x.fn = 0) (h1 : x.how ≠ 2) (h2 : x.nm ≠ []) : Calls Tryz.prog 62 #[itX x A c] w (PtRes w (opdP x)) := by
  rw [opd_nsz h h1 (.inl h2)]
  have hB := PBox.opC w x A c
  unfold opC at hB
  unfold itX itW
  rw [h] at hB ⊢
  have h10 : (x.how == 2) = false := by simpa using h1
  have hbn : ((bs x.nm).toList == []) = false := cmpNo h2
  have hbm : ((bs x.nm).toList != []) = true := by rw [bne, hbn]; rfl
  have PB := Lib.hid hB
  clear h h1 h2 hB
  go_enter Tryz.func62, Tryz.ntmps62
  go_wp2
  refine bodyPost_ret (v := partV ⟨[], false, 0, 0⟩) (R := PtRes w ⟨[], false, 0, 0⟩) (by simp [results, Tryz.results62, go_sem]; rfl) rfl ?_
  exact ⟨rfl, PB.out.bel⟩
theorem opd_nl5 (x : It) (A : Option Addr) (c : Nat) (w : World) (h : x.fn = 0) (h1 : x.how ≠ 2) (h2 : x.nm = []) (h3 : 256 < x.ns.length) (hl : x.ns.length ≤ 9223372036854775807) : Calls Tryz.prog 62 #[itX x A c] w (PtRes w (opdP x)) := by
  rw [opd_nsz h h1 (.inr h3)]
  have hB := PBox.opC w x A c
  unfold opC at hB
  unfold itX itW
  rw [h, h2] at hB ⊢
  have h10 : (x.how == 2) = false := by simpa using h1
  obtain ⟨n, hn⟩ : ∃ n, n = x.ns.length := ⟨_, rfl⟩
  rw [← hn] at hB h3 hl ⊢
  have hz : (bs []).size = 0 := rfl
  have hbn : ((bs []).toList == []) = true := cmpYes rfl
  have hbm : ((bs []).toList != []) = false := by rw [bne, hbn]; rfl
  have PB := Lib.hid hB
  clear h h1 h2 hB hn
  go_enter Tryz.func62, Tryz.ntmps62
  go_wp2
  refine bodyPost_ret (v := partV ⟨[], false, 0, 0⟩) (R := PtRes w ⟨[], false, 0, 0⟩) (by simp [results, Tryz.results62, go_sem]; rfl) rfl ?_
  exact ⟨rfl, PB.out.bel⟩
theorem numsT_snoc : ∀ (l : List Int) (z : Int), numsT (l ++ [z]) = if l = [] then digs z else numsT l ++ 32 :: digs z
  | [], z => rfl
  | [n], z => rfl
  | n :: m :: r, z => by
    have ih := numsT_snoc (m :: r) z
    rw [if_neg (by simp)] at ih ⊢
    show digs n ++ 32 :: numsT ((m :: r) ++ [z]) = (digs n ++ 32 :: numsT (m :: r)) ++ 32 :: digs z
    rw [ih]; simp
theorem numsT_take {ns : List Int} {k : Nat} (h : k < ns.length) : numsT (ns.take (k + 1)) = if k = 0 then digs (ns.getD k 0) else numsT (ns.take k) ++ 32 :: digs (ns.getD k 0) := by
  have e : ns.take (k + 1) = ns.take k ++ [ns.getD k 0] := by
    rw [List.take_add_one, List.getElem?_eq_getElem h, List.getD_eq_getElem?_getD, List.getElem?_eq_getElem h]; rfl
  rw [e, numsT_snoc]
  by_cases h0 : k = 0
  · subst h0; rfl
  · rw [if_neg h0, if_neg]
    intro e
    have := congrArg List.length e
    rw [List.length_take] at this
    simp only [List.length_nil] at this
    omega
set_option maxHeartbeats 1600000 in
theorem opd_ns5 (x : It) (A : Option Addr) (c : Nat) (w : World) (h : x.fn = 0) (h1 : x.how ≠ 2) (h2 : x.nm = []) (h3 : x.ns.length ≤ 256) (hr : NumU w A x.ns) (hg : ∀ n ∈ x.ns, rng n) : Calls Tryz.prog 62 #[itX x A c] w (PtRes w (opdP x)) := by
  rw [opd_ns h h1 h2 h3]
  have hB := PBox.opC w x A c
  have hA := opC_at w x A c
  unfold opC at hB hA
  unfold itX itW
  rw [h, h2] at hB hA ⊢
  have h10 : (x.how == 2) = false := by simpa using h1
  obtain ⟨n, hn⟩ : ∃ n, n = x.ns.length := ⟨_, rfl⟩
  rw [← hn] at hB hA h3 ⊢
  have hz : (bs []).size = 0 := rfl
  have hbn : ((bs []).toList == []) = true := cmpYes rfl
  have hbm : ((bs []).toList != []) = false := by rw [bne, hbn]; rfl
  have HN := Lib.hid (And.intro hn hg)
  have HR := Lib.hid hr
  obtain ⟨V, hV⟩ : ∃ V, V = (w.alloc (.cells #[.int .i64 x.how, .int .i64 x.pl, .int .u8 0, .string (bs []), .slice A n c] 37)).alloc (.cells #[.string ⟨#[]⟩, .bool false, .int .i64 0, .int .i64 0] 92) := ⟨_, rfl⟩
  rw [← hV] at hB hA
  have HV := Lib.hid hV
  have PB := Lib.hid hB
  have HA := Lib.hid hA
  have hlv : w.heap.size < V.heap.size := heap_lt hA
  have y4 : V.cell? ⟨w.heap.size, 4, none⟩ = some (.slice A n c) := by rw [cell_of_row _ _ _ _ _ _ hA]; rfl
  have HY4 := Lib.hid y4
  clear h h1 h2 hB hn hA hr hg hV y4
  go_enter Tryz.func62, Tryz.ntmps62
  go_wp2_with fail
  rw [← HV.out]
  go_loopw [4, 3] (fun i s wr => ∃ k : Nat, k ≤ n ∧ i = .int .i64 k ∧ s = .string (bs (numsT (x.ns.take k))) ∧ Hid (Below V.heap.size V wr)) (fun i _ _ => n - (intOf i).toNat)
  case atStart => exact ⟨0, by omega, rfl, rfl, Lib.hid (Below.refl _ _)⟩
  case round =>
    obtain ⟨k, hk, rfl, rfl, HB⟩ := hrel
    have y4 := fun j => (show (wr.drewN j).cell? ⟨w.heap.size, 4, none⟩ = some (.slice A n c) from (cell_below HB.out hlv _).trans HY4.out)
    have y40 : wr.cell? ⟨w.heap.size, 4, none⟩ = some (.slice A n c) := y4 0
    have hsl : (numsT (x.ns.take k)).length ≤ 24 * k := by
      have h1 := numsT_le (ns := x.ns.take k) fun y hy => HN.out.2 y (List.mem_of_mem_take hy)
      have h2 : (x.ns.take k).length ≤ k := by rw [List.length_take]; omega
      omega
    have hz1 : (bs (numsT (x.ns.take k))).size = (numsT (x.ns.take k)).length := bs_size _
    by_cases hlt : k < n
    · obtain ⟨z, hzz⟩ : ∃ z, z = x.ns.getD k 0 := ⟨_, rfl⟩
      have hkl : k < x.ns.length := by rw [← HN.out.1]; exact hlt
      have hzr : rng z := by rw [hzz, List.getD_eq_getElem?_getD, List.getElem?_eq_getElem hkl]; exact HN.out.2 _ (List.getElem_mem hkl)
      obtain ⟨b, o, rfl, hb, hcs⟩ := HR.out (by omega)
      have q1 := idxN1 b o n c k hlt
      have u0 : wr.cell? ⟨b, o + k, none⟩ = some (.int .i64 z) := by
        rw [hzz]
        exact (cell_below (PB.out.bel.trans (HB.out.mono PB.out.bel.size)) hb _).trans (hcs k hkl)
      have ht := numsT_take hkl
      rw [← hzz] at ht
      have HT := Lib.hid ht
      have HZ := Lib.hid hzr
      have hdl := digs_len hzr.1 hzr.2
      have hz2 : (bs (digs z)).size = (digs z).length := bs_size _
      have hsz := HB.out.size
      clear hzz hkl hzr hcs ht
      by_cases h0 : k < 1
      · have HT2 := Lib.hid (show bs (numsT (x.ns.take k)) ++ bs (digs z) = bs (numsT (x.ns.take (k + 1))) by
          rw [cat_bs, HT.out]
          obtain rfl : k = 0 := by omega
          rfl)
        go_wp2_with fail
        refine (number5_any z _ HZ.out).mono ?_
        rintro e w2 ⟨rfl, b2⟩
        have B2 := Lib.hid (HB.out.trans (b2.mono HB.out.size))
        clear b2
        go_wp2
        go_roundw
        case rel => exact ⟨k + 1, by omega, by go_num, by rw [HT2.out], B2⟩
        case measure => simp [intOf]; omega
      · have HT2 := Lib.hid (show (bs (numsT (x.ns.take k)) ++ ⟨#[32]⟩) ++ bs (digs z) = bs (numsT (x.ns.take (k + 1))) by rw [show (⟨#[32]⟩ : ByteArray) = bs [32] from rfl, cat_bs, cat_bs, HT.out, if_neg (by omega)]; simp)
        go_wp2_with fail
        refine (number5_any z _ HZ.out).mono ?_
        rintro e w2 ⟨rfl, b2⟩
        have B2 := Lib.hid (HB.out.trans (b2.mono HB.out.size))
        clear b2
        go_wp2
        go_roundw
        case rel => exact ⟨k + 1, by omega, by go_num, by rw [HT2.out], B2⟩
        case measure => simp [intOf]; omega
    · obtain rfl : k = n := by omega
      have PB2 := Lib.hid (PB.out.next HB.out)
      rw [List.take_of_length_le (by have := HN.out.1; omega)]
      have HKN := Lib.hid (show (k : Int) = (x.ns.length : Int) by rw [← HN.out.1])
      have HP4 := Lib.hid (show (((wr.setCell ⟨w.heap.size + 1, 0, none⟩ (.string (bs (numsT x.ns)))).setCell ⟨w.heap.size + 1, 1, none⟩ (.bool true)).setCell ⟨w.heap.size + 1, 2, none⟩ (.int .i64 (k : Int))).setCell ⟨w.heap.size + 1, 3, none⟩ (.int .i64 0) = pt4 wr (w.heap.size + 1) ⟨numsT x.ns, true, k, 0⟩ from rfl)
      obtain ⟨z1, z2, z3, z4, _, _, _, _, z5, z6, z7, z8⟩ := PB2.out.frz
      go_wp2_with fail
      rw [HP4.out]
      obtain ⟨⟨j0, j1, j2, j3⟩, hbel⟩ := PB2.out.fin ⟨numsT x.ns, true, k, 0⟩
      refine bodyPost_ret (v := partV ⟨numsT x.ns, true, k, 0⟩) (R := PtRes w ⟨numsT x.ns, true, k, 0⟩) (by simp [results, Tryz.results62, go_sem, j0, j1, j2, j3]; rfl) rfl ⟨rfl, hbel⟩
theorem operand5_any (x : It) (A : Option Addr) (c : Nat) (w : World) (hb : ItB x) (hr : NumU w A x.ns) : Calls Tryz.prog 62 #[itX x A c] w (PtRes w (opdP x)) := by
  by_cases h : x.fn = 0
  · by_cases h1 : x.how = 2
    · by_cases h2 : 0 < x.ns.length
      · exact opd_nm5 x A c w h h1 h2 hb.len
      · cases h3 : nameB x.nm with
        | false => exact opd_nb5 x A c w h h1 (by omega) h3 hb.nm
        | true => exact opd_nm6 x A c w h h1 (by omega) h3 hb.nm
    · by_cases h2 : x.nm = []
      · by_cases h3 : 256 < x.ns.length
        · exact opd_nl5 x A c w h h1 h2 h3 hb.len
        · exact opd_ns5 x A c w h h1 h2 (by omega) hr hb.ns
      · exact opd_nz5 x A c w h h1 h2
  · exact opd_fn5 x A c w h
/-! ### brackets -/
theorem brk5_plain (p : Pt) (w : World) (h : p.pl = true) : Calls Tryz.prog 65 #[partV p] w (PtRes w (brkP p)) := by
  rw [show brkP p = p by unfold brkP; rw [if_pos h]]
  unfold partV
  rw [h]
  have hW : Below w.heap.size w ((w.alloc (.cells #[.string (bs p.s), .bool true, .int .i64 p.tk, .int .i64 p.ne] 92)).alloc (.cells #[.string (bs p.s), .bool true, .int .i64 p.tk, .int .i64 p.ne] 92)) := ((Below.refl _ _).alloc (Nat.le_refl _) _).trans (((Below.refl _ _).alloc (Nat.le_refl _) _).mono (by simp))
  have HW := Lib.hid hW
  have HP := Lib.hid h
  clear hW h
  go_enter Tryz.func65, Tryz.ntmps65
  go_wp2
  refine bodyPost_ret (v := partV ⟨p.s, true, p.tk, p.ne⟩) (R := PtRes w p) (by simp [results, Tryz.results65, go_sem]; rfl) rfl ?_
  exact ⟨by unfold partV; rw [HP.out], HW.out⟩
theorem brk5_not (p : Pt) (w : World) (h : p.pl = false) (hs : p.s.length ≤ 140737488355320) (ht : p.tk ≤ 1000000000) (hn : p.ne ≤ 1000000000) : Calls Tryz.prog 65 #[partV p] w (PtRes w (brkP p)) := by
  rw [show brkP p = ⟨40 :: (p.s ++ [41]), false, p.tk + 2, p.ne + 1⟩ by unfold brkP; rw [h]; rfl]
  unfold partV
  rw [h]
  have HC := Lib.hid (show (⟨#[40]⟩ : ByteArray) ++ bs p.s ++ ⟨#[41]⟩ = bs (40 :: (p.s ++ [41])) by rw [show (⟨#[40]⟩ : ByteArray) = bs [40] from rfl, show (⟨#[41]⟩ : ByteArray) = bs [41] from rfl, cat_bs, cat_bs]; rfl)
  have hW : Below w.heap.size w ((w.alloc (.cells #[.string (bs p.s), .bool false, .int .i64 p.tk, .int .i64 p.ne] 92)).alloc (.cells #[.string (bs (40 :: (p.s ++ [41]))), .bool false, .int .i64 ((p.tk : Int) + 2), .int .i64 ((p.ne : Int) + 1)] 92)) := ((Below.refl _ _).alloc (Nat.le_refl _) _).trans (((Below.refl _ _).alloc (Nat.le_refl _) _).mono (by simp))
  have HW := Lib.hid hW
  have hz : (bs p.s).size = p.s.length := bs_size _
  clear hW h
  go_enter Tryz.func65, Tryz.ntmps65
  go_wp2
  rw [HC.out]
  refine bodyPost_ret (v := partV ⟨40 :: (p.s ++ [41]), false, p.tk + 2, p.ne + 1⟩) (R := PtRes w ⟨40 :: (p.s ++ [41]), false, p.tk + 2, p.ne + 1⟩) (by simp [results, Tryz.results65, go_sem]; rfl) rfl ?_
  exact ⟨rfl, HW.out⟩
theorem bracketed5_any (p : Pt) (w : World) (hs : p.s.length ≤ 140737488355320) (ht : p.tk ≤ 1000000000) (hn : p.ne ≤ 1000000000) : Calls Tryz.prog 65 #[partV p] w (PtRes w (brkP p)) := by
  cases h : p.pl with
  | true => exact brk5_plain p w h
  | false => exact brk5_not p w h hs ht hn
end Go.Proofs.YtbapgdhcbfpdoaaGreatDoor
