/- What the laws of layer 3 are lifted by: strings and tokens opened; what is laid; a witness. -/
import Derived.Test.YtphcjpomneejmaaDoorCards
import Derived.Test.YtphcjpomneejmaaDoorTie
import Derived.WalkKit
import Derived.ProofKit
import Derived.OpenShut
import Derived.WideKeyArgs
import Derived.Below
import Derived.ChangeSame
import Derived.ChangeSlices
import Derived.ChangeMaps5
import Derived.Deep.Slices
import Derived.Deep.DeepHandedRow
import Derived.Deep.DeepWitnessRowRef
import Derived.LaidMore
import Derived.Lib.LaidTab
import Derived.Stop.LaidErr
import Derived.Stop.Joined
import Derived.SevenTiedAt
import Derived.Test.YtphcjpomneejmaaDoorLexX
namespace Go.Proofs.YtphcjpomneejmaaDoor
open Go.ChangeShapes Go.WideShapes Go.ChangeAt Go.RowKit Go.WideElems Go.Deep

theorem lawOwn : ownKnob Tryd.prog.godebug = none := by kernel_rfl
theorem lawLaid : laidOutB Tryd.prog = true := by kernel_rfl
theorem lawArgsB {H : Type} {enc : TypeId × Value → H} {W W' : World} (hg : Below W.heap.size W W') {sp : Nat → Bool} : ∀ {ts : List TypeId} {vs : List Value} {ds : List (DataW H)} {p : List MemPlace},
    (ts.all fun t => Tryd.prog.readableRec t && decide (t < Tryd.prog.types.size)) = true → DataW.TrodAll enc Tryd.prog W 0 (fun _ => true) true ts vs ds p → (∀ q ∈ p, q.block < W.heap.size) → (∀ q ∈ p, sp q.block = true) → DataW.TrodAll enc Tryd.prog W' 0 sp true ts vs ds p := by
  intro ts
  induction ts with
  | nil =>
    intro vs ds p _ h _ _
    cases vs <;> cases ds <;> simp only [DataW.TrodAll] at h ⊢ <;> exact h
  | cons t ts ih =>
    intro vs ds p hr h hlt hs
    cases vs with
    | nil => exact h.elim
    | cons v vs =>
      cases ds with
      | nil => exact h.elim
      | cons d ds =>
        obtain ⟨p0, q0, h0, h1, rfl⟩ := h
        rw [List.all_cons, Bool.and_eq_true, Bool.and_eq_true, decide_eq_true_eq] at hr
        exact ⟨p0, q0, Trod_stays lawLaid hr.1.1 hr.1.2 h0 (fun q hq => hg.same (hlt q (List.mem_append_left _ hq))) (fun q hq => hs q (List.mem_append_left _ hq)),
          ih hr.2 h1 (fun q hq => hlt q (List.mem_append_right _ hq)) (fun q hq => hs q (List.mem_append_right _ hq)), rfl⟩
/-- A law's last step: it answers a value without places; its arguments read as before; below the call's own blocks nothing has turned. -/
theorem lawPost {H : Type} {enc : TypeId × Value → H} {P : Program} {f : Func} {s : ChangeSpec} {a b c d : Bool} {W W' : World} {args : Array Value} {v : Value} {ds gs : List (DataW H)} {before pa pv : List MemPlace}
    (hW : DataW.Whole enc P f.params.toList s.vars a W args.toList ds gs before) (hb : Below W.heap.size W W') (hps : before = pa ++ pv)
    (hres : ∀ (n : Nat) (sp : Nat → Bool) (hd : Bool), DataW.TrodAll enc P W' n sp hd f.resultTypes.toList (v.resultList f.resultTypes.size) (s.fn H (ds ++ gs)).results [])
    (hargs : ∀ sp : Nat → Bool, (∀ p ∈ before, sp p.block = true) → DataW.TrodAll enc P W' 0 sp true f.params.toList args.toList (s.fn H (ds ++ gs)).args pa)
    (hvars : ∀ sp : Nat → Bool, (∀ p ∈ before, sp p.block = true) → DataW.TrodVars enc P W' sp s.vars (s.fn H (ds ++ gs)).vars pv)
    (hok : ∀ (j : Nat) (t : TypeId) (r : Value), f.resultTypes[j]? = some t → (v.resultList f.resultTypes.size)[j]? = some r → Value.okWide P W' .any 0 t r) :
    s.post enc P f a b c d W args v W' := by
  have hlt := hW.lt
  have hlow : ∀ p ∈ before, (fun k => decide (k < W.heap.size)) p.block = true := fun p hp => decide_eq_true (hlt p hp)
  refine ⟨ds, gs, before, [], pa, pv, hW, hres _ _ _, hargs _ hlow, hvars _ hlow, World.keptBut_mono (fun p hp => ⟨hp, by rw [hps] at hp; exact Or.inr (List.mem_append.1 hp)⟩) (hb.frame (· ∈ before)), fun _ => ?_⟩
  obtain ⟨_, _, _, _, _, hfz, hnd⟩ := hW
  refine ⟨hok, _, _, ([] ++ pa) ++ pv, ⟨[] ++ pa, pv, trodAll_append (hargs _ (fun _ _ => rfl)) (hres _ _ _), hvars _ (fun _ _ => rfl), rfl, fun k off hp => ?_, fun ha => ?_⟩, fun p hp _ => ?_⟩
  · have hmem : MemPlace.cell k off ∈ before := by rw [hps]; simpa using hp
    rw [hb.frozen (hlt _ hmem)]
    exact hfz k off hmem
  · have := hnd ha
    rw [hps] at this
    simpa using this
  · rw [hps]; simpa using hp


/-! ### what the laws say of a text's tokens -/
theorem sh_zero (l : List Tk) : l.map (sh 0 0) = l := by
  have h : ∀ t : Tk, sh 0 0 t = t := fun t => by unfold sh; split <;> simp
  rw [show (sh 0 0) = id from funext h, List.map_id]
theorem toks_len : ∀ (n : Nat) (l : List UInt8) (a : Int), l.length ≤ n → (lexL l a).toks.length ≤ l.length := by
  intro n
  induction n with
  | zero =>
    intro l a hl
    obtain rfl : l = [] := List.length_eq_zero_iff.1 (by omega)
    rw [lex_nil]; simp [Rs.toks]
  | succ n ih =>
    intro l a hl
    cases l with
    | nil => rw [lex_nil]; simp [Rs.toks]
    | cons b r =>
      simp at hl
      cases hp : piece b r with
      | skip k =>
        rw [lex_skip hp]
        have := ih (r.drop k) (a + 1 + k) (by rw [List.length_drop]; omega)
        rw [List.length_drop] at this
        simp; omega
      | tok kd w v k =>
        rw [lex_tok hp]
        have := ih (r.drop k) (a + 1 + k) (by rw [List.length_drop]; omega)
        rw [List.length_drop] at this
        cases h : lexL (r.drop k) (a + 1 + k) with
        | ok ts => rw [h] at this; simp [Rs.pre, Rs.toks] at this ⊢; omega
        | err p e => simp [Rs.pre, Rs.toks]
      | bad e => rw [lex_bad hp]; simp [Rs.toks]
theorem lexR_bd {l : List UInt8} : (∀ t ∈ (lexR l).toks, 0 ≤ t.a ∧ t.a ≤ 1000000) ∧ (lexR l).toks.length ≤ 140737488355328 := by
  unfold lexR
  split
  · exact ⟨fun t ht => by simp [Rs.toks] at ht, by simp [Rs.toks]⟩
  · rename_i h
    have h1 := toks_len _ l 0 (Nat.le_refl _)
    refine ⟨fun t ht => ?_, by omega⟩
    cases hx : lexL l 0 with
    | err a e => rw [hx] at ht; simp [Rs.toks] at ht
    | ok ts =>
      rw [hx] at ht
      have := (lex_places _ _ _ (Nat.le_refl _) _ hx).1 t ht
      omega
/-! ### what is laid -/
theorem gPow : Tryd.prog.globalNamed "internal/strconv.uint64pow10" = some 2 := by kernel_rfl
theorem gRange : Tryd.prog.globalNamed "strconv.ErrRange" = some 1 := by kernel_rfl
theorem gPowType : (Tryd.prog.globals[2]?).map (·.type) = some 85 := by kernel_rfl
theorem gRangeType : (Tryd.prog.globals[1]?).map (·.type) = some 56 := by kernel_rfl
theorem cells64 : Tryd.prog.cellsOf 40 = 1 := by kernel_rfl
theorem cellsTab : Tryd.prog.cellsOf 85 = 20 := by kernel_rfl
theorem cellsEs : Tryd.prog.cellsOf 92 = 1 := by kernel_rfl
theorem cellsStr : Tryd.prog.cellsOf 9 = 1 := by kernel_rfl
theorem starEs : "*" ++ "errors.errorString" = "*errors.errorString" := by decide
theorem rowEs (u : TypeId) (h : Tryd.prog.typeName? 3 u = some "*errors.errorString") : u = 90 :=
  typeName_ptr_named (nm := "errors.errorString") (by rw [starEs]; kernel_rfl) (by kernel_rfl) (by decide) u (by rw [starEs]; exact h)
abbrev laidList : List (String × DataW Unit) := Rows.lexReadsRow.laid
theorem laid_of {W : World} (h : laidMetH Tryd.prog laidList W) : Laid W := by
  rw [MakeChecks.laidMetH_plain _ _ _ (by kernel_rfl)] at h
  have h1 : laidMet Tryd.prog (("internal/strconv.uint64pow10", Lib.tabData .u64 Lib.pow10Tab) :: [("strconv.ErrRange", Rows.laid_strconv_ErrRange), ("strconv.ErrSyntax", Rows.laid_strconv_ErrSyntax)]) W := (laidMet.tail (laidMet.tail h))
  refine ⟨Lib.tabIs_of_head gPow gPowType Tryd.underlying85 Tryd.underlying40 cells64 cellsTab h1, ?_⟩
  obtain ⟨a, s, hv, _⟩ := laid_sentinel (laidMet.tail h1) gRange gRangeType Tryd.underlying56 rowEs Tryd.underlying90 Tryd.underlying92 rfl rfl Tryd.underlying9 cellsEs cellsStr
  exact ⟨_, _, hv⟩
noncomputable def startWorld (os : Os) : World := World.doorLaid Tryd.prog 2000 os
theorem start_met (os : Os) (args : Array Value) : laidMetH Tryd.prog laidList ((startWorld os).forCall (fun _ _ => 0) ⟨#[], args, []⟩).memory :=
  laidMetH_of_parts3 (fuel := 8) (laidMet_of_run' 8 (by kernel_rfl) (by kernel_rfl)) (by kernel_rfl) (by kernel_rfl)

/-! ### how much an argument weighs -/
theorem wt_of {H : Type} {P : Program} {ts vs : List TypeId} {ds : List (DataW H)} (h : (DataW.weightsEach P (ts ++ vs) (ds ++ [])).all (· ≤ reachBytes) = true) (hl : vs = [] := by rfl) : (DataW.weightsEach P ts ds).all (· ≤ reachBytes) = true := by
  subst hl; simpa only [List.append_nil] using h
theorem wt_skip {H : Type} {P : Program} {t : TypeId} {ts : List TypeId} {d : DataW H} {ds : List (DataW H)} (h : (DataW.weightsEach P (t :: ts) (d :: ds)).all (· ≤ reachBytes) = true) : (DataW.weightsEach P ts ds).all (· ≤ reachBytes) = true := by
  rw [DataW.weightsEach, List.all_append, Bool.and_eq_true] at h; exact h.2
theorem wt_head {H : Type} {P : Program} {t : TypeId} {ts : List TypeId} {d : DataW H} {ds : List (DataW H)} (h : (DataW.weightsEach P (t :: ts) (d :: ds)).all (· ≤ reachBytes) = true) : (d.weights P t).all (· ≤ reachBytes) = true := by
  rw [DataW.weightsEach, List.all_append, Bool.and_eq_true] at h; exact h.1
theorem reach_is : reachBytes = 140737488351232 := rfl
theorem wt_str {H : Type} {P : Program} {t : TypeId} {ts : List TypeId} {s : ByteArray} {ds : List (DataW H)} (h : (DataW.weightsEach P (t :: ts) (.lit (.string s.data.toList) :: ds)).all (· ≤ reachBytes) = true) : s.size ≤ 140737488355320 ∧ (DataW.weightsEach P ts ds).all (· ≤ reachBytes) = true := by
  refine ⟨?_, wt_skip h⟩
  have h1 := wt_head h
  rw [DataW.weights] at h1
  simp only [List.all_cons, List.all_nil, Bool.and_true] at h1
  have h2 : s.data.toList.length ≤ reachBytes := of_decide_eq_true h1
  rw [len_s, reach_is] at h2
  omega
section
variable {H : Type} {enc : TypeId × Value → H} {W : World} {base : Nat} {sp : Nat → Bool} {held : Bool}
theorem rng_i64 {x : Int} (h : (Lit.int .i64 x).wf = true) : -9223372036854775808 ≤ x ∧ x ≤ 9223372036854775807 := by
  have h1 : IntKind.i64.min = -9223372036854775808 := rfl
  have h2 : IntKind.i64.max = 9223372036854775807 := rfl
  simp only [Lit.wf, Bool.and_eq_true, decide_eq_true_eq] at h
  omega
end
end Go.Proofs.YtphcjpomneejmaaDoor
