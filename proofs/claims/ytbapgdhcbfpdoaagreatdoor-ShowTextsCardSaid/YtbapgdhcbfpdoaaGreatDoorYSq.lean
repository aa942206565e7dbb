/- What the laws of layer 4 are lifted by: what is laid; a witness. -/
import Derived.Test.YtbapgdhcbfpdoaaGreatDoorCards
import Derived.Test.YtbapgdhcbfpdoaaGreatDoorTie
import Derived.WalkKit
import Derived.ProofKit
import Derived.OpenShut
import Derived.WideKeyArgs
import Derived.Below
import Derived.ChangeSame
import Derived.ChangeSlices
import Derived.ChangeMaps5
import Derived.Deep.Slices
import Derived.Deep.Strs
import Derived.Deep.DeepHandedRow
import Derived.Deep.DeepWitnessRowRef
import Derived.LaidMore
import Derived.Lib.LaidTab
import Derived.Stop.LaidErr
import Derived.Stop.Joined
import Derived.Lib.SmallJoins
import Derived.SevenTiedAt
import Derived.Test.YtbapgdhcbfpdoaaGreatDoorYSo
namespace Go.Proofs.YtbapgdhcbfpdoaaGreatDoor
open Go.ChangeShapes Go.WideShapes Go.ChangeAt Go.RowKit Go.WideElems Go.Deep

theorem lawOwn : ownKnob Tryz.prog.godebug = none := by kernel_rfl
theorem lawLaid : laidOutB Tryz.prog = true := by kernel_rfl
theorem lawArgsB {H : Type} {enc : TypeId × Value → H} {W W' : World} (hg : Below W.heap.size W W') {sp : Nat → Bool} : ∀ {ts : List TypeId} {vs : List Value} {ds : List (DataW H)} {p : List MemPlace},
    (ts.all fun t => Tryz.prog.readableRec t && decide (t < Tryz.prog.types.size)) = true → DataW.TrodAll enc Tryz.prog W 0 (fun _ => true) true ts vs ds p → (∀ q ∈ p, q.block < W.heap.size) → (∀ q ∈ p, sp q.block = true) → DataW.TrodAll enc Tryz.prog W' 0 sp true ts vs ds p := by
  intro ts
  induction ts with
  | nil =>
    intro vs ds p _ h _ _
    cases vs <;> cases ds <;> simp only [DataW.TrodAll] at h ⊢ <;> exact h
  | cons t ts ih =>
    intro vs ds p hr h hlt hs
    cases vs with
    | nil => exact h.elim
    | cons v vs =>
      cases ds with
      | nil => exact h.elim
      | cons d ds =>
        obtain ⟨p0, q0, h0, h1, rfl⟩ := h
        rw [List.all_cons, Bool.and_eq_true, Bool.and_eq_true, decide_eq_true_eq] at hr
        exact ⟨p0, q0, Trod_stays lawLaid hr.1.1 hr.1.2 h0 (fun q hq => hg.same (hlt q (List.mem_append_left _ hq))) (fun q hq => hs q (List.mem_append_left _ hq)),
          ih hr.2 h1 (fun q hq => hlt q (List.mem_append_right _ hq)) (fun q hq => hs q (List.mem_append_right _ hq)), rfl⟩
/-- A law's last step: it answers a value without places; its arguments read as before; below the call's own blocks nothing has turned. -/
theorem lawPost {H : Type} {enc : TypeId × Value → H} {P : Program} {f : Func} {s : ChangeSpec} {a b c d : Bool} {W W' : World} {args : Array Value} {v : Value} {ds gs : List (DataW H)} {before pa pv : List MemPlace}
    (hW : DataW.Whole enc P f.params.toList s.vars a W args.toList ds gs before) (hb : Below W.heap.size W W') (hps : before = pa ++ pv)
    (hres : ∀ (n : Nat) (sp : Nat → Bool) (hd : Bool), DataW.TrodAll enc P W' n sp hd f.resultTypes.toList (v.resultList f.resultTypes.size) (s.fn H (ds ++ gs)).results [])
    (hargs : ∀ sp : Nat → Bool, (∀ p ∈ before, sp p.block = true) → DataW.TrodAll enc P W' 0 sp true f.params.toList args.toList (s.fn H (ds ++ gs)).args pa)
    (hvars : ∀ sp : Nat → Bool, (∀ p ∈ before, sp p.block = true) → DataW.TrodVars enc P W' sp s.vars (s.fn H (ds ++ gs)).vars pv)
    (hok : ∀ (j : Nat) (t : TypeId) (r : Value), f.resultTypes[j]? = some t → (v.resultList f.resultTypes.size)[j]? = some r → Value.okWide P W' .any 0 t r) :
    s.post enc P f a b c d W args v W' := by
  have hlt := hW.lt
  have hlow : ∀ p ∈ before, (fun k => decide (k < W.heap.size)) p.block = true := fun p hp => decide_eq_true (hlt p hp)
  refine ⟨ds, gs, before, [], pa, pv, hW, hres _ _ _, hargs _ hlow, hvars _ hlow, World.keptBut_mono (fun p hp => ⟨hp, by rw [hps] at hp; exact Or.inr (List.mem_append.1 hp)⟩) (hb.frame (· ∈ before)), fun _ => ?_⟩
  obtain ⟨_, _, _, _, _, hfz, hnd⟩ := hW
  refine ⟨hok, _, _, ([] ++ pa) ++ pv, ⟨[] ++ pa, pv, trodAll_append (hargs _ (fun _ _ => rfl)) (hres _ _ _), hvars _ (fun _ _ => rfl), rfl, fun k off hp => ?_, fun ha => ?_⟩, fun p hp _ => ?_⟩
  · have hmem : MemPlace.cell k off ∈ before := by rw [hps]; simpa using hp
    rw [hb.frozen (hlt _ hmem)]
    exact hfz k off hmem
  · have := hnd ha
    rw [hps] at this
    simpa using this
  · rw [hps]; simpa using hp


/-! ### what is laid -/
theorem gPow : Tryz.prog.globalNamed "internal/strconv.uint64pow10" = some 3 := by kernel_rfl
theorem gRange : Tryz.prog.globalNamed "strconv.ErrRange" = some 2 := by kernel_rfl
theorem gPowType : (Tryz.prog.globals[3]?).map (·.type) = some 170 := by kernel_rfl
theorem gRangeType : (Tryz.prog.globals[2]?).map (·.type) = some 68 := by kernel_rfl
theorem cells64 : Tryz.prog.cellsOf 131 = 1 := by kernel_rfl
theorem cellsTab : Tryz.prog.cellsOf 170 = 20 := by kernel_rfl
theorem cellsEs : Tryz.prog.cellsOf 162 = 1 := by kernel_rfl
theorem cellsStr : Tryz.prog.cellsOf 9 = 1 := by kernel_rfl
theorem starEs : "*" ++ "errors.errorString" = "*errors.errorString" := by decide
theorem rowEs (u : TypeId) (h : Tryz.prog.typeName? 3 u = some "*errors.errorString") : u = 160 :=
  typeName_ptr_named (nm := "errors.errorString") (by rw [starEs]; kernel_rfl) (by kernel_rfl) (by decide) u (by rw [starEs]; exact h)
abbrev laidList : List (String × DataW Unit) := [("math/bits.deBruijn32tab", Rows.laid_math_bits_deBruijn32tab), ("math/bits.deBruijn64tab", Rows.laid_math_bits_deBruijn64tab), ("internal/strconv.uint64pow10", Rows.laid_internal_strconv_uint64pow10), ("strconv.ErrRange", Rows.laid_strconv_ErrRange), ("strconv.ErrSyntax", Rows.laid_strconv_ErrSyntax), ("windrow/parse.verbs", Rows.laid_windrow_parse_verbs)]
theorem rows3 : ∀ (rows : List (List UInt8 × Int × Int)) (cs : List Value), cs.length = 3 * rows.length → (∀ i x, rows[i]? = some x → (cs.drop (i * 3)).take 3 = [Value.string (bs x.1), .int .u8 x.2.1, .int .u8 x.2.2]) → cs = rows.flatMap fun x => [Value.string (bs x.1), .int .u8 x.2.1, .int .u8 x.2.2]
  | [], cs, hl, _ => List.length_eq_zero_iff.1 (by simpa using hl)
  | r :: rows, cs, hl, h => by
    have h0 := h 0 r rfl
    rw [Nat.zero_mul, List.drop_zero] at h0
    have ih := rows3 rows (cs.drop 3) (by rw [List.length_drop]; simp at hl; omega) (fun i x hx => by
      have := h (i + 1) x (by simpa using hx)
      rw [List.drop_drop]
      rw [show (i + 1) * 3 = 3 + i * 3 by omega] at this
      exact this)
    rw [List.flatMap_cons, ← ih, ← h0, List.take_append_drop]
theorem one3 {c : List Value} {a b d : Value} (hl : c.length = 3) (h0 : (c.drop 0).take 1 = [a]) (h1 : (c.drop 1).take 1 = [b]) (h2 : (c.drop 2).take 1 = [d]) : c = [a, b, d] := by
  match c, hl with
  | [x, y, z], _ => simp at h0 h1 h2; rw [h0, h1, h2]
theorem gVerbs : Tryz.prog.globalNamed "windrow/parse.verbs" = some 0 := by kernel_rfl
theorem gVerbsType : (Tryz.prog.globals[0]?).map (·.type) = some 148 := by kernel_rfl
theorem cellsVerbs : Tryz.prog.cellsOf 148 = 75 := by kernel_rfl
theorem cellsVerb : Tryz.prog.cellsOf 147 = 3 := by kernel_rfl
theorem cellsFn : Tryz.prog.cellsOf 34 = 1 := by kernel_rfl
theorem verbs_datum : (Rows.laid_windrow_parse_verbs : DataW Unit) = .agg (vtab.map fun x => .agg [.lit (.string x.1), .lit (.int .u8 x.2.1), .lit (.int .u8 x.2.2)]) := by kernel_rfl
theorem verbs_of {W : World} {rest : List (String × DataW Unit)} (h : laidMet Tryz.prog (("windrow/parse.verbs", Rows.laid_windrow_parse_verbs) :: rest) W) : LaidV W := by
  obtain ⟨ps, ⟨g', t', cs, fuel, p, q, hg', ht', hvar, hd, _, _⟩, _⟩ := h
  obtain rfl := Option.some.inj (gVerbs.symm.trans hg')
  obtain rfl := Option.some.inj (gVerbsType.symm.trans ht')
  obtain ⟨xs, m, _, hx, hlen, hxl, hel⟩ := DataW.trod_array Tryz.underlying148 hd
  rw [verbs_datum] at hx
  have hx1 : (vtab.map fun x => (DataW.agg [.lit (.string x.1), .lit (.int .u8 x.2.1), .lit (.int .u8 x.2.2)] : DataW Unit)) = xs.map (·.1) := by
    have := congrArg Prod.fst hx
    simpa using this
  rw [cellsVerbs] at hlen
  have hcs : cs.toList = vcells.toList := by
    refine rows3 vtab cs.toList hlen fun i x hi => ?_
    have hi25 : i < 25 := (List.getElem?_eq_some_iff.1 hi).1
    have h1 := hel i hi25
    have h2 : (xs.map (·.1))[i]? = some (DataW.agg [.lit (.string x.1), .lit (.int .u8 x.2.1), .lit (.int .u8 x.2.2)] : DataW Unit) := by rw [← hx1, List.getElem?_map, hi]; rfl
    rw [List.getElem?_map] at h2
    obtain ⟨y, hy, hy2⟩ := Option.map_eq_some_iff.1 h2
    rw [hy, cellsVerb] at h1
    obtain ⟨y0, y1, y2, n, rfl, hcl, k0, k1, k2⟩ := trod_struct3 Tryz.underlying147 h1
    rw [cellsVerb] at hcl
    obtain ⟨s, s0, rfl, _⟩ := DataW.trod_string Tryz.underlying9 k0
    obtain ⟨a, a0, rfl, _⟩ := DataW.trod_int Tryz.underlying34 k1
    obtain ⟨b, b0, rfl, _⟩ := DataW.trod_int Tryz.underlying34 k2
    simp only [DataW.agg.injEq, List.cons.injEq, DataW.lit.injEq, Lit.string.injEq, Lit.int.injEq, true_and, and_true] at hy2
    obtain ⟨e1, e2, e3⟩ := hy2
    rw [cellsStr] at s0
    rw [cellsFn] at a0 b0
    rw [← e1, ← e2, ← e3, bs_of]
    exact one3 hcl s0 a0 b0
  have hcs2 : cs = vcells := Array.toList_inj.1 hcs
  subst hcs2
  unfold World.var? at hvar
  rw [gVerbs] at hvar
  simp only [Option.bind_some] at hvar
  split at hvar
  · rename_i c T fr hh
    injection hvar with hvar
    subst hvar
    exact ⟨T, fr, hh⟩
  · cases hvar
theorem laid_of {W : World} (h : laidMetH Tryz.prog laidList W) : LaidP W := by
  rw [MakeChecks.laidMetH_plain _ _ _ (by kernel_rfl)] at h
  have h1 : laidMet Tryz.prog (("internal/strconv.uint64pow10", Lib.tabData .u64 Lib.pow10Tab) :: [("strconv.ErrRange", Rows.laid_strconv_ErrRange), ("strconv.ErrSyntax", Rows.laid_strconv_ErrSyntax), ("windrow/parse.verbs", Rows.laid_windrow_parse_verbs)]) W := (laidMet.tail (laidMet.tail h))
  refine ⟨⟨Lib.tabIs_of_head gPow gPowType Tryz.underlying170 Tryz.underlying131 cells64 cellsTab h1, ?_⟩, verbs_of (laidMet.tail (laidMet.tail (laidMet.tail h1)))⟩
  obtain ⟨a, s, hv, _⟩ := laid_sentinel (laidMet.tail h1) gRange gRangeType Tryz.underlying68 rowEs Tryz.underlying160 Tryz.underlying162 rfl rfl Tryz.underlying9 cellsEs cellsStr
  exact ⟨_, _, hv⟩
noncomputable def startWorld (os : Os) : World := World.doorLaid Tryz.prog 2000 os
theorem start_met (os : Os) (args : Array Value) : laidMetH Tryz.prog laidList ((startWorld os).forCall (fun _ _ => 0) ⟨#[], args, []⟩).memory :=
  laidMetH_of_parts3 (fuel := 8) (laidMet_of_run' 8 (by kernel_rfl) (by kernel_rfl)) (by kernel_rfl) (by kernel_rfl)

/-! ### how much an argument weighs -/
theorem wt_of {H : Type} {P : Program} {ts vs : List TypeId} {ds : List (DataW H)} (h : (DataW.weightsEach P (ts ++ vs) (ds ++ [])).all (· ≤ reachBytes) = true) (hl : vs = [] := by rfl) : (DataW.weightsEach P ts ds).all (· ≤ reachBytes) = true := by
  subst hl; simpa only [List.append_nil] using h
theorem wt_skip {H : Type} {P : Program} {t : TypeId} {ts : List TypeId} {d : DataW H} {ds : List (DataW H)} (h : (DataW.weightsEach P (t :: ts) (d :: ds)).all (· ≤ reachBytes) = true) : (DataW.weightsEach P ts ds).all (· ≤ reachBytes) = true := by
  rw [DataW.weightsEach, List.all_append, Bool.and_eq_true] at h; exact h.2
theorem wt_head {H : Type} {P : Program} {t : TypeId} {ts : List TypeId} {d : DataW H} {ds : List (DataW H)} (h : (DataW.weightsEach P (t :: ts) (d :: ds)).all (· ≤ reachBytes) = true) : (d.weights P t).all (· ≤ reachBytes) = true := by
  rw [DataW.weightsEach, List.all_append, Bool.and_eq_true] at h; exact h.1
theorem reach_is : reachBytes = 140737488351232 := rfl
theorem wt_str {H : Type} {P : Program} {t : TypeId} {ts : List TypeId} {s : ByteArray} {ds : List (DataW H)} (h : (DataW.weightsEach P (t :: ts) (.lit (.string s.data.toList) :: ds)).all (· ≤ reachBytes) = true) : s.size ≤ 140737488355320 ∧ (DataW.weightsEach P ts ds).all (· ≤ reachBytes) = true := by
  refine ⟨?_, wt_skip h⟩
  have h1 := wt_head h
  rw [DataW.weights] at h1
  simp only [List.all_cons, List.all_nil, Bool.and_true] at h1
  have h2 : s.data.toList.length ≤ reachBytes := of_decide_eq_true h1
  rw [len_s, reach_is] at h2
  omega
section
variable {H : Type} {enc : TypeId × Value → H} {W : World} {base : Nat} {sp : Nat → Bool} {held : Bool}
theorem rng_i64 {x : Int} (h : (Lit.int .i64 x).wf = true) : -9223372036854775808 ≤ x ∧ x ≤ 9223372036854775807 := by
  have h1 : IntKind.i64.min = -9223372036854775808 := rfl
  have h2 : IntKind.i64.max = 9223372036854775807 := rfl
  simp only [Lit.wf, Bool.and_eq_true, decide_eq_true_eq] at h
  omega
set_option maxRecDepth 4000
/-- How long a slice that comes in may be. -/
theorem slice_len {st e : TypeId} (hst : Tryz.prog.underlying st = some (.slice e)) (hby : 1 ≤ Tryz.prog.bytesOf e) {fuel : Nat} {cs : List Value} {x : DataW H × List MemPlace} (h : DataW.trod enc Tryz.prog W 0 (fun _ => true) held fuel st cs = some x) (hw : wtOk x.1 st) {A : Option Addr} {n c : Nat} (hc : cs = [.slice A n c]) : n ≤ 140737488351232 := by
  rcases Go.Deep.open_slice hst h with ⟨h1, _⟩ | ⟨a, len, cap, m, k, D, Pl, h1, _, hl, hm, hmm, hxe, hx⟩
  · rw [h1] at hc
    simp at hc
    omega
  · rw [h1] at hc
    simp at hc
    obtain ⟨_, rfl, _⟩ := hc
    have h2 := hw
    unfold wtOk at h2
    rw [hxe, DataW.weights, hst] at h2
    simp only [List.all_cons, Bool.and_eq_true] at h2
    have h3 := of_decide_eq_true h2.1
    rw [wx_reach] at h3
    simp only [List.length_map, List.length_range] at h3
    have h4 : ∀ a b N : Nat, 1 ≤ b → (len + a) * b ≤ N → len ≤ N := fun a b N hb h => by
      have := Nat.mul_le_mul_left (len + a) hb
      omega
    exact h4 _ _ _ hby h3
theorem bytesIn : 1 ≤ Tryz.prog.bytesOf 48 := of_decide_eq_true (by kernel_rfl)
theorem bytesLn : 1 ≤ Tryz.prog.bytesOf 33 := of_decide_eq_true (by kernel_rfl)
theorem prog_len {fuel : Nat} {l : List Value} {x : DataW H × List MemPlace} (h : DataW.trod enc Tryz.prog W 0 (fun _ => true) held fuel 25 l = some x) (hw : wtOk x.1 25) {A B : Option Addr} {n c m d : Nat} (hl : l = [.slice A n c, .slice B m d]) : n ≤ 140737488351232 ∧ m ≤ 140737488351232 := by
  obtain ⟨xs, k, _, hxe, hll, hx, hf⟩ := DataW.trod_struct Tryz.underlying25 h
  have hx2 : xs.length = 2 := hx
  have f0 : DataW.trod enc Tryz.prog W 0 (fun _ => true) held k 22 ((l.drop 0).take (Tryz.prog.cellsOf 22)) = xs[0]? := hf 0 _ rfl
  have f1 : DataW.trod enc Tryz.prog W 0 (fun _ => true) held k 23 ((l.drop 1).take (Tryz.prog.cellsOf 23)) = xs[1]? := hf 1 _ rfl
  rw [cells_inputs] at f0
  rw [cells_lines] at f1
  match xs, hx2 with
  | [y0, y1], _ =>
    subst hl
    simp at f0 f1
    unfold wtOk at hw
    rw [hxe] at hw
    simp only [List.map_cons, List.map_nil] at hw
    rw [DataW.weights, Tryz.underlying25] at hw
    exact ⟨slice_len Tryz.underlying22 bytesIn f0 (wx_head hw) rfl, slice_len Tryz.underlying23 bytesLn f1 (wx_head (wx_skip hw)) rfl⟩
theorem open_pa {r : Go.Reach} {b0 : Nat} {v : Value} {d : DataW H} {pl : List MemPlace} {ts : List TypeId} {ds : List (DataW H)} (hval : Value.okWide Tryz.prog W r b0 25 v) (h : DataW.Trod enc Tryz.prog W 0 (fun _ => true) held 25 v d pl)
    (hw : (DataW.weightsEach Tryz.prog (25 :: ts) (d :: ds)).all (· ≤ reachBytes) = true) : ∃ (p : Pg) (Ai Al : Option Addr) (ci cl : Nat), v = pgV Ai p.ins.length ci Al p.lns.length cl ∧ PA W p Ai Al p.ins.length ci p.lns.length cl := by
  obtain ⟨cs, rfl, _⟩ := okWide_struct Tryz.underlying25 hval
  obtain ⟨fuel, hf⟩ := h
  have hw1 : wtOk d 25 := wt_head hw
  obtain ⟨p, Ai, Al, ci, cl, e, h1, h2, h3, h4, h5, h6⟩ := open_program hf hw1
  have hcs : cs = #[.slice Ai p.ins.length ci, .slice Al p.lns.length cl] := Array.toList_inj.1 (by simpa [Value.cells] using e)
  have hlen := prog_len hf hw1 e
  exact ⟨p, Ai, Al, ci, cl, by rw [hcs], ⟨rfl, rfl, h5, h6, h1, h2, by omega⟩⟩
end
end Go.Proofs.YtbapgdhcbfpdoaaGreatDoor
