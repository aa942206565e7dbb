/- The code's writer: a number, numbers, a name. -/
import Derived.Test.YtbapgdhcbfpdoaaGreatDoorYSj
import Derived.Test.YtbapgdhcbfpdoaaGreatDoorYSa
import Derived.Test.YtbapgdhcbfpdoaaGreatDoorShelfB
import Derived.Test.YtbapgdhcbfpdoaaGreatDoorZPb
namespace Go.Proofs.YtbapgdhcbfpdoaaGreatDoor
open Go.RowKit
set_option linter.unusedVariables false
set_option maxRecDepth 100000
theorem pc_num {n : Int} (h : rng n) : ∃ b r, digs n = b :: r ∧ piece b r = .tok 2 [] n r.length := by
  have hd := dec_dig n.natAbs
  have hm := mag_dec n.natAbs n.natAbs (Nat.le_refl _)
  have hfull : ∀ l : List UInt8, (∀ c ∈ l, digB c = true) → run digB l = l.length := fun l hl => run_full digB l hl
  unfold digs
  by_cases h0 : n < 0
  · rw [if_pos h0]
    refine ⟨_, _, rfl, ?_⟩
    have hne := dec_ne n.natAbs
    have hp : 0 < run digB (Lib.decDigits n.natAbs) := by rw [hfull _ hd]; exact List.length_pos_iff.2 hne
    unfold piece
    rw [if_neg (by decide), if_neg (by decide), if_neg (by decide), if_neg (by decide), if_neg (by decide), if_pos ⟨by decide, hp⟩, hfull _ hd, List.take_length]
    unfold numR
    rw [if_pos rfl, hm, if_pos (by have := h.1; omega)]
    show Pc.tok 2 [] _ _ = _
    congr 1
    omega
  · rw [if_neg h0]
    cases hl : Lib.decDigits n.natAbs with
    | nil => exact (dec_ne _ hl).elim
    | cons b r =>
      rw [hl] at hd hm
      obtain ⟨n1, n2, n3, n4⟩ := dig_no (hd b (by simp))
      refine ⟨_, _, rfl, ?_⟩
      unfold piece
      rw [if_neg (by rw [n1]; decide), if_neg n2, if_neg n3, if_neg (by rw [n4]; decide), if_pos (hd b (by simp)), hfull r (fun c hc => hd c (by simp [hc])), List.take_length]
      unfold numR
      rw [if_neg (by decide), hm, if_pos (by have := h.2; omega)]
      show Pc.tok 2 [] _ _ = _
      congr 1
      omega
theorem sp_dig {n : Int} (h : rng n) : Sp ⟨2, 0, [], n⟩ := by
  obtain ⟨b, r, h1, h2⟩ := pc_num h
  obtain ⟨h3, h4⟩ := digs_head h1
  have h5 := digs_len h.1 h.2
  rw [h1] at h5
  simp only [List.length_cons] at h5
  exact ⟨b, r, h1, by omega, h3, h4, h2⟩
theorem shnum_any (n : Int) (w : World) (hL : LaidP w) (h : rng n) : Calls Tryz.prog 59 #[.int .i64 n] w fun e w' => e = .returned (.string (bs (digs n))) ∧ Below w.heap.size w w' := by
  have hsp := fun W hL => spell_any ⟨2, 0, [], n⟩ W hL ⟨⟨h.1, h.2⟩, Nat.zero_le _⟩
  unfold SpRes at hsp
  rw [sp_yes (sp_dig h)] at hsp
  have hsp : ∀ W, Laid W → Calls Tryz.prog 57 #[.agg #[.int .i64 2, .int .i64 0, .string ⟨#[]⟩, .int .i64 n]] W fun e w' => e = .returned (.tuple #[.string (bs (digs n)), .bool true]) ∧ Below W.heap.size W w' := hsp
  have HS := Lib.hid hsp
  have HL := Lib.hid hL.1
  clear hsp hL h
  go_enter Tryz.func59, Tryz.ntmps59
  go_wp2_with (go_at_call 57; refine (HS.out _ HL.out).mono ?_; rintro e w1 ⟨rfl, b1⟩; have B1 := Lib.hid b1; clear b1)
  go_ret
  exact ⟨rfl, B1.out⟩
/-! ### numbers -/
def OT (w : World) (B : Nat) (v : Value) (l : List (List UInt8)) : Prop := w.ownsRow B 9 1 v l.length (l.map fun s => .string (bs s))
theorem OT.below {w w' : World} {B : Nat} {v : Value} {l : List (List UInt8)} (h : OT w B v l) (hb : Below w.heap.size w w') : OT w' B v l := row_keep h (fun k hk hl => hb.block k hl) (Nat.le_refl _)
theorem infoStr : (Tryz.prog.info? 9).map (fun i => (i.zero, i.size, i.bytes)) = some (some (.string ⟨#[]⟩), 1, 16) := by kernel_rfl
theorem append_tx {w : World} {ops : Array Oper} {rest : List Oper} {o : Oper} {a : Act} {Q : Exit → Act → World → Prop} (hgd : o.guard = none) (sl x : Operand)
    (ho : o.op = .call { callee := .builtin .append, args := #[sl, x], argTypes := #[129, 129] }) (B : Nat) (v : Value) (l : List (List UInt8)) (hs : a.eval sl = v) (h : OT w B v l) (q c1 : Nat) (e : List UInt8) (hx : a.eval x = .slice (some ⟨q, 0, none⟩) 1 c1)
    (hc : w.cell? ⟨q, 0, none⟩ = some (.string (bs e))) (hm : l.length + 1 ≤ 1000000) (hb : B ≤ w.heap.size)
    (hK : ∀ v' w', OT w' B v' (l ++ [e]) → Below B w w' → wpList Tryz.prog ops Q rest (a.put o.dst v') w') : wpList Tryz.prog ops Q (o :: rest) a w := by
  obtain ⟨i1, hi, hz0, hz1, hz2⟩ := info_parts infoStr
  refine wpList_append_lies w hgd sl x _ ho B 9 i1 _ 1 16 Tryz.underlying129 hi hz0 hz1 hz2 rfl (by omega) v l.length (l.map fun s => .string (bs s)) hs h ⟨q, 0, none⟩ 1 c1 [.string (bs e)] hx rfl (fun j u hj => by
    match j, hj with
    | 0, hj => simp at hj; subst hj; exact hc) (fun u hu => by simp at hu; subst hu; rfl) (by omega) (by unfold maxLen; omega) (by omega) hb w.heap.size rfl ?_
  intro g cap w' hown hgr _ _
  refine hK _ w' ?_ ((Below.refl B w).grown hgr hb fun k hk => (row_base h hk).1)
  unfold OT
  rw [List.map_append, List.length_append]
  exact hown
theorem join_nums : ∀ ns : List Int, Lib.join (ns.map digs) [32] = numsT ns
  | [] => rfl
  | [n] => by rw [List.map_cons, List.map_nil, Lib.join_one]; rfl
  | n :: m :: r => by
    have ih := join_nums (m :: r)
    rw [List.map_cons, Lib.join_cons] at ih ⊢
    show digs n ++ Lib.joinTail [32] (digs m :: r.map digs) = digs n ++ 32 :: numsT (m :: r)
    rw [← ih]
    rfl
theorem numsT_len : ∀ {ns : List Int}, (∀ n ∈ ns, rng n) → (numsT ns).length ≤ 24 * ns.length
  | [], _ => Nat.zero_le _
  | [n], h => by have := digs_len (h n (List.mem_cons_self ..)).1 (h n (List.mem_cons_self ..)).2; simp only [numsT, List.length_cons, List.length_nil]; omega
  | n :: m :: r, h => by
    have h1 := digs_len (h n (List.mem_cons_self ..)).1 (h n (List.mem_cons_self ..)).2
    have h2 := numsT_len (ns := m :: r) fun x hx => h x (List.mem_cons_of_mem _ hx)
    simp only [numsT, List.length_append, List.length_cons] at h2 ⊢
    omega
/-- Numbers that lie below a writer. -/
def NumR (w : World) (R : Nat) (A : Option Addr) (ns : List Int) : Prop := 0 < ns.length → ∃ b o, A = some ⟨b, o, none⟩ ∧ b < R ∧ ∀ i, i < ns.length → w.cell? ⟨b, o + i, none⟩ = some (.int .i64 (ns.getD i 0))
theorem NumR.below {w w' : World} {R : Nat} {A : Option Addr} {ns : List Int} (h : NumR w R A ns) (hb : Below R w w') : NumR w' R A ns := fun hl => by
  obtain ⟨b, o, e, h1, h2⟩ := h hl
  exact ⟨b, o, e, h1, fun i hi => (World.cell?_of_block (a := ⟨b, o + i, none⟩) (hb.block b h1)).trans (h2 i hi)⟩
theorem idxN1 (b o len c k : Nat) (h1 : k < len) (w : World) : (Instr.indexAt 35 (.slice (some ⟨b, o, none⟩) len c) (.int .i64 (k : Int))).run Tryz.prog w = .ok (.pointer (some ⟨b, o + k, none⟩)) w := by
  have e := WideShapes.add_plain b o (k * 1)
  have h0 : (0 : Int) ≤ (k : Int) ∧ (k : Int) < (len : Int) := by omega
  go_simp
theorem LaidR.belowR {w w' : World} {R : Nat} (h : LaidR w R) (hb : Below R w w') : LaidR w' R := by
  obtain ⟨w0, h1, h2, h3⟩ := h
  exact ⟨w0, h1, h2, h3.trans (hb.mono h2)⟩
theorem cell_new (w : World) (s : ByteArray) (T : TypeId) : (w.alloc (.cells #[.string s] T)).cell? ⟨w.heap.size, 0, none⟩ = some (.string s) := by rw [cell_of_row _ _ _ _ _ _ (heap_alloc_new w _)]; rfl
theorem numbers_none (w : World) (R : Nat) (A : Option Addr) (c : Nat) : Calls Tryz.prog 80 #[.pointer (some ⟨R, 0, none⟩), .slice A 0 c] w fun e w' => e = .returned (.bool false) ∧ w' = w := by
  go_enter Tryz.func80, Tryz.ntmps80
  go_wp2
  go_ret
  exact ⟨rfl, rfl⟩
set_option maxHeartbeats 1600000 in
theorem numbers_far (w : World) (R M : Nat) (v : Value) (d : Int) (n : Nat) (A : Option Addr) (c : Nat) (h : WB w R M v d) (hd : 0 ≤ d ∧ d ≤ 1000000) (hn : 0 < n) (hn2 : n ≤ 9223372036854775807) (hf : ¬ (n : Int) ≤ d) : Calls Tryz.prog 80 #[.pointer (some ⟨R, 0, none⟩), .slice A n c] w fun e w' => e = .returned (.bool false) ∧ Below R w w' := by
  have H := Lib.hid h
  have hf1 : decide ((n : Int) ≤ d) = false := decide_eq_false hf
  have h0 : ((n : Int) == 0) = false := by rw [beq_eq_false_iff_ne]; omega
  have HD := Lib.hid hd
  clear h hf hd
  go_enter Tryz.func80, Tryz.ntmps80
  go_wp2_with fail
  refine (spend_any w R M v d n H.out HD.out (by omega)).mono ?_
  rintro e w1 ⟨rfl, rfl⟩
  rw [hf1]
  go_wp2
  go_ret
  exact ⟨rfl, set_bel _ _ _ _⟩
set_option maxHeartbeats 3200000 in
theorem numbers_yes (w : World) (R M L d : Nat) (st : List Pt) (v : Value) (ns : List Int) (n : Nat) (A : Option Addr) (c : Nat) (h : WS w R M L st v d) (hL : L ≤ 256) (hst : st.length ≤ 1000) (hla : LaidR w R) (hr : NumR w R A ns) (hg : ∀ x ∈ ns, rng x) (hn : ns.length = n) (hn0 : 0 < n) (hf : n ≤ d) :
    Calls Tryz.prog 80 #[.pointer (some ⟨R, 0, none⟩), .slice A n c] w fun e w' => e = .returned (.bool true) ∧ Below R w w' ∧ ∃ v' d', WS w' R M L (⟨numsT ns, true, n, 0⟩ :: st) v' d' := by
  have HS := Lib.hid h
  have HLA := Lib.hid hla
  have HR := Lib.hid hr
  have HN := Lib.hid (And.intro hn hg)
  have hd2 : d ≤ 256 := by have := h.sum; omega
  have hf1 : decide ((n : Int) ≤ (d : Int)) = true := decide_eq_true (by omega)
  have h0 : ((n : Int) == 0) = false := by rw [beq_eq_false_iff_ne]; omega
  obtain ⟨b, o, rfl, hbR, hcells⟩ := hr (by omega)
  have HCE := Lib.hid hcells
  have hlt := h.box.blt
  have HST := Lib.hid hst
  clear h hla hr hn hg hcells hst
  go_enter Tryz.func80, Tryz.ntmps80
  go_wp2_with fail
  refine (spend_any w R M v d n HS.out.box (by omega) (by omega)).mono ?_
  rintro e w1 ⟨rfl, hw1⟩
  rw [hf1]
  have x1 := HS.out.box.left ((d : Int) - (n : Int))
  have o1 := HS.out.own.set (o := 2) (u := .int .i64 ((d : Int) - (n : Int))) (by omega : R < R + 1)
  have b1 := set_bel w R 2 (.int .i64 ((d : Int) - (n : Int)))
  rw [← hw1] at x1 o1 b1
  have X1 := Lib.hid x1
  have O1 := Lib.hid o1
  have B1 := Lib.hid b1
  have hl1 := x1.blt
  clear hw1 x1 o1 b1
  go_wp2_with fail
  go_loopw [20, 5] (fun i s wr => ∃ k : Nat, k ≤ n ∧ i = .int .i64 k ∧ Hid (OT wr w1.heap.size s ((ns.take k).map digs) ∧ Below w1.heap.size w1 wr)) (fun i _ _ => n - (intOf i).toNat)
  case atStart => exact ⟨0, by omega, rfl, World.ownsRow_nil _ _ _ _, Below.refl _ _⟩
  case round =>
    obtain ⟨k, hk, rfl, HI⟩ := hrel
    by_cases hlt : k < n
    · have q1 := idxN1 b o n c k hlt
      have hbr := HI.out.2.size
      obtain ⟨z, hz⟩ : ∃ z, z = ns.getD k 0 := ⟨_, rfl⟩
      have hkl : k < ns.length := by rw [HN.out.1]; exact hlt
      have hzr : rng z := by rw [hz, List.getD_eq_getElem?_getD, List.getElem?_eq_getElem hkl]; exact HN.out.2 _ (List.getElem_mem hkl)
      have u0 : wr.cell? ⟨b, o + k, none⟩ = some (.int .i64 z) := by
        rw [hz]
        exact (World.cell?_of_block (a := ⟨b, o + k, none⟩) ((HI.out.2.block b (by omega)).trans (B1.out.block b hbR))).trans (HCE.out k hkl)
      have htake : (ns.take (k + 1)).map digs = (ns.take k).map digs ++ [digs z] := by
        rw [List.take_add_one, List.getElem?_eq_getElem hkl, hz, List.getD_eq_getElem?_getD, List.getElem?_eq_getElem hkl, List.map_append]; rfl
      have HT := Lib.hid (And.intro htake hzr)
      have hlen : ((ns.take k).map digs).length = k := by rw [List.length_map, List.length_take, HN.out.1]; omega
      have HLN := Lib.hid hlen
      clear htake hz hzr hkl hlen
      go_wp2_with fail
      refine (shnum_any z _ ((HLA.out.belowR (B1.out.trans (HI.out.2.mono (by omega)))).laid) HT.out.2).mono ?_
      rintro e w2 ⟨rfl, b2⟩
      have O2 := Lib.hid (HI.out.1.below b2)
      have B2 := Lib.hid (HI.out.2.trans (b2.mono hbr))
      have hs2 := b2.size
      clear b2
      go_wp2_with (at_builtin; refine append_tx rfl _ _ rfl w1.heap.size _ ((ns.take k).map digs) rfl (O2.out.below ((Below.refl _ _).alloc (Nat.le_refl _) _)) _ _ (digs z) rfl (cell_new _ _ _) (by rw [HLN.out]; omega) (by simp; omega) ?_; intro v3 w3 o3 b3; have O3 := Lib.hid o3; have B3 := Lib.hid (B2.out.trans (((Below.refl _ _).alloc (by omega) _).trans b3)); clear o3 b3)
      go_roundw
      case rel => exact ⟨k + 1, by omega, by go_num, by rw [HT.out.1]; exact O3.out, B3.out⟩
      case measure => simp [intOf]; omega
    · obtain rfl : k = n := by omega
      have hot := HI.out.1
      rw [List.take_of_length_le (by rw [HN.out.1]; exact Nat.le_refl _)] at hot
      have hln : (ns.map digs).length = k := by rw [List.length_map, HN.out.1]
      unfold OT at hot
      rw [hln] at hot
      obtain ⟨g, cap, rfl, hBg, hgl⟩ := World.ownsRow.form hot hn0
      have hcap : k ≤ cap := by
        obtain ⟨_, _, e, hc⟩ := row_shape hot
        injection e with _ _ e3
        subst e3
        exact hc
      have hxl : ((ns.map digs).map bs).length = k := by rw [List.length_map]; exact hln
      have hdat : ((ns.map digs).map bs).map (·.data.toList) = ns.map digs := by
        rw [List.map_map]
        exact (List.map_congr_left fun x _ => bs_list x).trans (List.map_id _)
      have hjoin : (Lib.join (((ns.map digs).map bs).map (·.data.toList)) (bs [32]).data.toList) = numsT ns := by
        rw [hdat, bs_list]; exact join_nums ns
      have hJ := Tryz.strJoin g 0 cap ((ns.map digs).map bs) (bs [32]) wr (fun j x hj => by
        have h1 := World.ownsRow.cellAt hot j (by
          have := (List.getElem?_eq_some_iff.1 hj).1
          rw [hxl] at this; omega)
        rw [Nat.zero_add]
        refine h1.trans ?_
        rw [List.getElem?_map] at hj ⊢
        obtain ⟨y, hy, rfl⟩ := Option.map_eq_some_iff.1 hj
        rw [hy]; rfl) hgl (by rw [hxl]; omega) (by rw [hxl]; exact hcap) (by
          rw [hjoin]
          have := numsT_len HN.out.2
          rw [HN.out.1] at this
          omega)
      rw [hjoin, hxl] at hJ
      have HJ := Lib.hid hJ
      have HI2 := Lib.hid HI.out.2
      clear hot hln hxl hdat hjoin hJ HI hcap hgl hBg
      go_wp2_with fail
      refine HJ.out.mono ?_
      rintro e w4 ⟨rfl, b4⟩
      have hb4 := HI2.out.trans (b4.mono HI2.out.size)
      have X4 := Lib.hid (X1.out.below hb4)
      have O4 := Lib.hid (O1.out.below hb4)
      have B4 := Lib.hid (B1.out.trans (hb4.mono (by omega)))
      clear b4 hb4
      go_wp2_with fail
      refine (put_any _ R M v _ st.reverse ⟨numsT ns, true, k, 0⟩ X4.out O4.out (by have := HST.out; simp; omega)).mono ?_
      rintro e w5 ⟨rfl, v5, x5, o5, b5⟩
      have hfin : Below R w w5 ∧ ∃ v' d', WS w5 R M L (⟨numsT ns, true, k, 0⟩ :: st) v' d' := by
        refine ⟨B4.out.trans b5, v5, d - k, ⟨?_, by simpa using o5, ?_, ?_, ?_⟩⟩
        · have e1 : ((d - k : Nat) : Int) = (d : Int) - (k : Int) := by omega
          rw [e1]; exact x5
        · have h1 := HS.out.sum
          simp only [sumK] at h1 ⊢
          omega
        · have h1 := HS.out.ne
          rw [neK_cons, h1]; rfl
        · intro y hy
          rcases List.mem_cons.1 hy with rfl | hy
          · have := numsT_len HN.out.2
            rw [HN.out.1] at this
            exact this
          · exact HS.out.bnd y hy
      go_wp2
      go_ret
      exact ⟨rfl, hfin⟩
/-! ### a name -/
set_option maxHeartbeats 1600000 in
theorem name_bad (w : World) (R : Nat) (l : List UInt8) (hlt : R ≤ w.heap.size) (hla : LaidR w R) (hl : l.length ≤ 140737488355320) (hn : nameB l = false) : Calls Tryz.prog 81 #[.pointer (some ⟨R, 0, none⟩), .string (bs l)] w fun e w' => e = .returned (.bool false) ∧ Below R w w' := by
  have hnm := name_any (bs l) w hla.laid (by rw [bs_size]; exact hl)
  rw [bs_list, hn] at hnm
  have HM := Lib.hid hnm
  clear hnm hn hla
  go_enter Tryz.func81, Tryz.ntmps81
  go_wp2_with fail
  refine HM.out.mono ?_
  rintro e w1 ⟨rfl, b1⟩
  have B1 := Lib.hid (b1.mono hlt)
  clear b1
  go_wp2
  go_ret
  exact ⟨rfl, B1.out⟩
set_option maxHeartbeats 1600000 in
theorem name_far (w : World) (R M : Nat) (v : Value) (d : Nat) (l : List UInt8) (h : WB w R M v d) (hd : d ≤ 1000000) (hla : LaidR w R) (hl : l.length ≤ 140737488355320) (hn : nameB l = true) (hf : ¬ 1 ≤ d) : Calls Tryz.prog 81 #[.pointer (some ⟨R, 0, none⟩), .string (bs l)] w fun e w' => e = .returned (.bool false) ∧ Below R w w' := by
  have hnm := name_any (bs l) w hla.laid (by rw [bs_size]; exact hl)
  rw [bs_list, hn] at hnm
  have HM := Lib.hid hnm
  have H := Lib.hid h
  have hlt := h.blt
  have hf1 : decide ((1 : Int) ≤ (d : Int)) = false := decide_eq_false (by omega)
  have HD := Lib.hid (show (0 : Int) ≤ (d : Int) ∧ (d : Int) ≤ 1000000 by omega)
  clear hnm hn hla h hf
  go_enter Tryz.func81, Tryz.ntmps81
  go_wp2_with fail
  refine HM.out.mono ?_
  rintro e w1 ⟨rfl, b1⟩
  have X1 := Lib.hid (H.out.below b1)
  have B1 := Lib.hid (b1.mono (Nat.le_of_lt hlt))
  clear b1
  go_wp2_with fail
  refine (spend_any w1 R M v d 1 X1.out HD.out (by decide)).mono ?_
  rintro e w2 ⟨rfl, rfl⟩
  rw [hf1]
  go_wp2
  go_ret
  exact ⟨rfl, B1.out.trans (set_bel _ _ _ _)⟩
set_option maxHeartbeats 1600000 in
theorem name_yes (w : World) (R M L d : Nat) (st : List Pt) (v : Value) (l : List UInt8) (h : WS w R M L st v d) (hL : L ≤ 256) (hst : st.length ≤ 1000) (hla : LaidR w R) (hl : l.length ≤ 24) (hn : nameB l = true) (hf : 1 ≤ d) :
    Calls Tryz.prog 81 #[.pointer (some ⟨R, 0, none⟩), .string (bs l)] w fun e w' => e = .returned (.bool true) ∧ Below R w w' ∧ ∃ v' d', WS w' R M L (⟨l, true, 1, 0⟩ :: st) v' d' := by
  have hnm := name_any (bs l) w hla.laid (by rw [bs_size]; omega)
  rw [bs_list, hn] at hnm
  have HM := Lib.hid hnm
  have HS := Lib.hid h
  have hlt := h.box.blt
  have hd2 : d ≤ 256 := by have := h.sum; omega
  have hf1 : decide ((1 : Int) ≤ (d : Int)) = true := decide_eq_true (by omega)
  clear hnm hn hla h
  go_enter Tryz.func81, Tryz.ntmps81
  go_wp2_with fail
  refine HM.out.mono ?_
  rintro e w1 ⟨rfl, b1⟩
  have X1 := HS.out.box.below b1
  have O1 := HS.out.own.below b1
  have B1 := b1.mono (Nat.le_of_lt hlt)
  have X1h := Lib.hid X1
  have x1 := X1.left ((d : Int) - 1)
  have o1 := O1.set (o := 2) (u := .int .i64 ((d : Int) - 1)) (by omega : R < R + 1)
  have bb := Lib.hid (B1.trans (set_bel w1 R 2 (.int .i64 ((d : Int) - 1))))
  clear b1 X1 O1 B1
  go_wp2_with fail
  refine (spend_any w1 R M v d 1 X1h.out (by omega) (by decide)).mono ?_
  rintro e w2 ⟨rfl, hw2⟩
  rw [← hw2] at x1 o1 bb
  rw [hf1]
  have X2 := Lib.hid x1
  have O2 := Lib.hid o1
  clear hw2 x1 o1
  go_wp2_with fail
  refine (put_any _ R M v _ st.reverse ⟨l, true, 1, 0⟩ X2.out O2.out (by simp; omega)).mono ?_
  rintro e w5 ⟨rfl, v5, x5, o5, b5⟩
  have hfin : Below R w w5 ∧ ∃ v' d', WS w5 R M L (⟨l, true, 1, 0⟩ :: st) v' d' := by
    refine ⟨bb.out.trans b5, v5, d - 1, ⟨?_, by simpa using o5, ?_, ?_, ?_⟩⟩
    · have e1 : ((d - 1 : Nat) : Int) = (d : Int) - 1 := by omega
      rw [e1]; exact x5
    · have h1 := HS.out.sum
      simp only [sumK] at h1 ⊢
      omega
    · have h1 := HS.out.ne
      rw [neK_cons, h1]; rfl
    · intro y hy
      rcases List.mem_cons.1 hy with rfl | hy
      · exact hl
      · exact HS.out.bnd y hy
  go_wp2
  go_ret
  exact ⟨rfl, hfin⟩
end Go.Proofs.YtbapgdhcbfpdoaaGreatDoor
