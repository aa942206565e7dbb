/- What the laws of layer 3 are lifted by: strings and tokens opened; what is laid; a witness. -/
import Derived.Test.YtphcjpomneejmaaDoorCards
import Derived.Test.YtphcjpomneejmaaDoorTie
import Derived.WalkKit
import Derived.ProofKit
import Derived.OpenShut
import Derived.WideKeyArgs
import Derived.Below
import Derived.ChangeSame
import Derived.ChangeSlices
import Derived.ChangeMaps5
import Derived.Deep.Slices
import Derived.Deep.DeepHandedRow
import Derived.Deep.DeepWitnessRowRef
import Derived.LaidMore
import Derived.Lib.LaidTab
import Derived.Stop.LaidErr
import Derived.Stop.Joined
import Derived.Lib.SmallJoins
import Derived.SevenTiedAt
import Derived.Test.YtphcjpomneejmaaDoorLexX
import Derived.Test.YtphcjpomneejmaaDoorLexY
namespace Go.Proofs.YtphcjpomneejmaaDoor
open Go.ChangeShapes Go.WideShapes Go.ChangeAt Go.RowKit Go.WideElems Go.Deep

theorem lawOwn : ownKnob Tryd.prog.godebug = none := by kernel_rfl
theorem lawLaid : laidOutB Tryd.prog = true := by kernel_rfl
theorem lawArgsB {H : Type} {enc : TypeId × Value → H} {W W' : World} (hg : Below W.heap.size W W') {sp : Nat → Bool} : ∀ {ts : List TypeId} {vs : List Value} {ds : List (DataW H)} {p : List MemPlace},
    (ts.all fun t => Tryd.prog.readableRec t && decide (t < Tryd.prog.types.size)) = true → DataW.TrodAll enc Tryd.prog W 0 (fun _ => true) true ts vs ds p → (∀ q ∈ p, q.block < W.heap.size) → (∀ q ∈ p, sp q.block = true) → DataW.TrodAll enc Tryd.prog W' 0 sp true ts vs ds p := by
  intro ts
  induction ts with
  | nil =>
    intro vs ds p _ h _ _
    cases vs <;> cases ds <;> simp only [DataW.TrodAll] at h ⊢ <;> exact h
  | cons t ts ih =>
    intro vs ds p hr h hlt hs
    cases vs with
    | nil => exact h.elim
    | cons v vs =>
      cases ds with
      | nil => exact h.elim
      | cons d ds =>
        obtain ⟨p0, q0, h0, h1, rfl⟩ := h
        rw [List.all_cons, Bool.and_eq_true, Bool.and_eq_true, decide_eq_true_eq] at hr
        exact ⟨p0, q0, Trod_stays lawLaid hr.1.1 hr.1.2 h0 (fun q hq => hg.same (hlt q (List.mem_append_left _ hq))) (fun q hq => hs q (List.mem_append_left _ hq)),
          ih hr.2 h1 (fun q hq => hlt q (List.mem_append_right _ hq)) (fun q hq => hs q (List.mem_append_right _ hq)), rfl⟩
/-- A law's last step: it answers a value without places; its arguments read as before; below the call's own blocks nothing has turned. -/
theorem lawPost {H : Type} {enc : TypeId × Value → H} {P : Program} {f : Func} {s : ChangeSpec} {a b c d : Bool} {W W' : World} {args : Array Value} {v : Value} {ds gs : List (DataW H)} {before pa pv : List MemPlace}
    (hW : DataW.Whole enc P f.params.toList s.vars a W args.toList ds gs before) (hb : Below W.heap.size W W') (hps : before = pa ++ pv)
    (hres : ∀ (n : Nat) (sp : Nat → Bool) (hd : Bool), DataW.TrodAll enc P W' n sp hd f.resultTypes.toList (v.resultList f.resultTypes.size) (s.fn H (ds ++ gs)).results [])
    (hargs : ∀ sp : Nat → Bool, (∀ p ∈ before, sp p.block = true) → DataW.TrodAll enc P W' 0 sp true f.params.toList args.toList (s.fn H (ds ++ gs)).args pa)
    (hvars : ∀ sp : Nat → Bool, (∀ p ∈ before, sp p.block = true) → DataW.TrodVars enc P W' sp s.vars (s.fn H (ds ++ gs)).vars pv)
    (hok : ∀ (j : Nat) (t : TypeId) (r : Value), f.resultTypes[j]? = some t → (v.resultList f.resultTypes.size)[j]? = some r → Value.okWide P W' .any 0 t r) :
    s.post enc P f a b c d W args v W' := by
  have hlt := hW.lt
  have hlow : ∀ p ∈ before, (fun k => decide (k < W.heap.size)) p.block = true := fun p hp => decide_eq_true (hlt p hp)
  refine ⟨ds, gs, before, [], pa, pv, hW, hres _ _ _, hargs _ hlow, hvars _ hlow, World.keptBut_mono (fun p hp => ⟨hp, by rw [hps] at hp; exact Or.inr (List.mem_append.1 hp)⟩) (hb.frame (· ∈ before)), fun _ => ?_⟩
  obtain ⟨_, _, _, _, _, hfz, hnd⟩ := hW
  refine ⟨hok, _, _, ([] ++ pa) ++ pv, ⟨[] ++ pa, pv, trodAll_append (hargs _ (fun _ _ => rfl)) (hres _ _ _), hvars _ (fun _ _ => rfl), rfl, fun k off hp => ?_, fun ha => ?_⟩, fun p hp _ => ?_⟩
  · have hmem : MemPlace.cell k off ∈ before := by rw [hps]; simpa using hp
    rw [hb.frozen (hlt _ hmem)]
    exact hfz k off hmem
  · have := hnd ha
    rw [hps] at this
    simpa using this
  · rw [hps]; simpa using hp


/-! ### what the laws say of a text's tokens -/
theorem sh_zero (l : List Tk) : l.map (sh 0 0) = l := by
  have h : ∀ t : Tk, sh 0 0 t = t := fun t => by unfold sh; split <;> simp
  rw [show (sh 0 0) = id from funext h, List.map_id]
theorem toks_len : ∀ (n : Nat) (l : List UInt8) (a : Int), l.length ≤ n → (lexL l a).toks.length ≤ l.length := by
  intro n
  induction n with
  | zero =>
    intro l a hl
    obtain rfl : l = [] := List.length_eq_zero_iff.1 (by omega)
    rw [lex_nil]; simp [Rs.toks]
  | succ n ih =>
    intro l a hl
    cases l with
    | nil => rw [lex_nil]; simp [Rs.toks]
    | cons b r =>
      simp at hl
      cases hp : piece b r with
      | skip k =>
        rw [lex_skip hp]
        have := ih (r.drop k) (a + 1 + k) (by rw [List.length_drop]; omega)
        rw [List.length_drop] at this
        simp; omega
      | tok kd w v k =>
        rw [lex_tok hp]
        have := ih (r.drop k) (a + 1 + k) (by rw [List.length_drop]; omega)
        rw [List.length_drop] at this
        cases h : lexL (r.drop k) (a + 1 + k) with
        | ok ts => rw [h] at this; simp [Rs.pre, Rs.toks] at this ⊢; omega
        | err p e => simp [Rs.pre, Rs.toks]
      | bad e => rw [lex_bad hp]; simp [Rs.toks]
theorem lexR_bd {l : List UInt8} : (∀ t ∈ (lexR l).toks, 0 ≤ t.a ∧ t.a ≤ 1000000) ∧ (lexR l).toks.length ≤ 140737488355328 := by
  unfold lexR
  split
  · exact ⟨fun t ht => by simp [Rs.toks] at ht, by simp [Rs.toks]⟩
  · rename_i h
    have h1 := toks_len _ l 0 (Nat.le_refl _)
    refine ⟨fun t ht => ?_, by omega⟩
    cases hx : lexL l 0 with
    | err a e => rw [hx] at ht; simp [Rs.toks] at ht
    | ok ts =>
      rw [hx] at ht
      have := (lex_places _ _ _ (Nat.le_refl _) _ hx).1 t ht
      omega
theorem Own.cap {w : World} {base n c : Nat} {A : Option Addr} {l : List Tk} (h : Own w base (.slice A n c) l) : n ≤ c := by
  obtain ⟨_, ⟨e, h0⟩ | ⟨g, cap, cur, e, _, _, hc, _⟩⟩ := h
  · injection e with _ e1 e2; omega
  · injection e with _ e1 e2; omega
theorem Rd.drop {w : World} {B b o : Nat} {l : List Tk} (h : Rd w B (some ⟨b, o, none⟩) l) (k : Nat) : Rd w B (some ⟨b, o + k * 4, none⟩) (l.drop k) := by
  intro hl
  rw [List.length_drop] at hl
  obtain ⟨b', o', e, h1, h2⟩ := h (by omega)
  injection e with e
  injection e with e1 e2
  subst e1 e2
  refine ⟨b, o + k * 4, rfl, h1, fun i hi => ?_⟩
  rw [List.length_drop] at hi
  have h3 := h2 (k + i) (by omega)
  have e : nth (l.drop k) i = nth l (k + i) := by unfold nth; rw [List.getD_eq_getElem?_getD, List.getD_eq_getElem?_getD, List.getElem?_drop]
  rw [e, show o + k * 4 + i * 4 = o + (k + i) * 4 from by omega]
  exact h3
theorem map_sh {l : List Tk} (h : ∀ t ∈ l, 0 ≤ t.a) (v : Int) : l.map (mv v) = l.map (sh 0 v) :=
  List.map_congr_left fun t ht => by unfold mv sh; rw [if_pos (h t ht)]
theorem lexR_small {l : List UInt8} (h : l.length ≤ 65536) : lexR l = lexL l 0 := by unfold lexR; rw [if_neg (by omega)]
theorem lexR_ok {l : List UInt8} {ts : List Tk} (h : lexR l = .ok ts) : l.length ≤ 65536 ∧ lexL l 0 = .ok ts := by
  unfold lexR at h
  split at h
  · cases h
  · exact ⟨by omega, h⟩
theorem lex_bd {l : List UInt8} {ts : List Tk} (h : lexR l = .ok ts) : (∀ t ∈ ts, 0 ≤ t.a ∧ t.a ≤ 1000000) ∧ ts.length ≤ 65536 := by
  have h1 := @lexR_bd l
  rw [h] at h1
  have h2 := (lexR_ok h).2
  have h3 := toks_len _ l 0 (Nat.le_refl _)
  rw [h2] at h3
  have := (lexR_ok h).1
  exact ⟨h1.1, by simp [Rs.toks] at h3; omega⟩
def ReadOk (w : World) (ts : List Tk) (n : Nat) (e : Ending) (w' : World) : Prop := ∃ A c, e = .returned (.tuple #[.slice A n c, .bool true]) ∧ Rd w' w'.heap.size A ts ∧ Below w.heap.size w w' ∧ n ≤ c
theorem read_ok (s : ByteArray) (w : World) (ts : List Tk) (n : Nat) (hx : lexR s.data.toList = .ok ts) (hn : ts.length = n) (hL : Laid w) (hs : s.size ≤ 140737488355328) : Calls Tryd.prog 17 #[.string s] w (ReadOk w ts n) := by
  subst hn
  refine (read_any s w hL hs).mono fun e w' ⟨A, c, he, ho, hb⟩ => ?_
  rw [hx] at he ho
  exact ⟨A, c, he, ho.rd, hb, ho.cap⟩
def ReadBad (w : World) (e : Ending) (w' : World) : Prop := ∃ A c, e = .returned (.tuple #[.slice A 0 c, .bool false]) ∧ Below w.heap.size w w'
theorem read_bad (s : ByteArray) (w : World) (a f : Int) (hx : lexR s.data.toList = .err a f) (hL : Laid w) (hs : s.size ≤ 140737488355328) : Calls Tryd.prog 17 #[.string s] w (ReadBad w) := by
  refine (read_any s w hL hs).mono fun e w' ⟨A, c, he, _, hb⟩ => ?_
  rw [hx] at he
  exact ⟨A, c, he, hb⟩
/-! ### what is laid -/
theorem gPow : Tryd.prog.globalNamed "internal/strconv.uint64pow10" = some 2 := by kernel_rfl
theorem gRange : Tryd.prog.globalNamed "strconv.ErrRange" = some 1 := by kernel_rfl
theorem gPowType : (Tryd.prog.globals[2]?).map (·.type) = some 85 := by kernel_rfl
theorem gRangeType : (Tryd.prog.globals[1]?).map (·.type) = some 56 := by kernel_rfl
theorem cells64 : Tryd.prog.cellsOf 40 = 1 := by kernel_rfl
theorem cellsTab : Tryd.prog.cellsOf 85 = 20 := by kernel_rfl
theorem cellsEs : Tryd.prog.cellsOf 92 = 1 := by kernel_rfl
theorem cellsStr : Tryd.prog.cellsOf 9 = 1 := by kernel_rfl
theorem starEs : "*" ++ "errors.errorString" = "*errors.errorString" := by decide
theorem rowEs (u : TypeId) (h : Tryd.prog.typeName? 3 u = some "*errors.errorString") : u = 90 :=
  typeName_ptr_named (nm := "errors.errorString") (by rw [starEs]; kernel_rfl) (by kernel_rfl) (by decide) u (by rw [starEs]; exact h)
abbrev laidList : List (String × DataW Unit) := Rows.lexReadsRow.laid
theorem laid_of {W : World} (h : laidMetH Tryd.prog laidList W) : Laid W := by
  rw [MakeChecks.laidMetH_plain _ _ _ (by kernel_rfl)] at h
  have h1 : laidMet Tryd.prog (("internal/strconv.uint64pow10", Lib.tabData .u64 Lib.pow10Tab) :: [("strconv.ErrRange", Rows.laid_strconv_ErrRange), ("strconv.ErrSyntax", Rows.laid_strconv_ErrSyntax)]) W := (laidMet.tail (laidMet.tail h))
  refine ⟨Lib.tabIs_of_head gPow gPowType Tryd.underlying85 Tryd.underlying40 cells64 cellsTab h1, ?_⟩
  obtain ⟨a, s, hv, _⟩ := laid_sentinel (laidMet.tail h1) gRange gRangeType Tryd.underlying56 rowEs Tryd.underlying90 Tryd.underlying92 rfl rfl Tryd.underlying9 cellsEs cellsStr
  exact ⟨_, _, hv⟩
noncomputable def startWorld (os : Os) : World := World.doorLaid Tryd.prog 2000 os
theorem start_met (os : Os) (args : Array Value) : laidMetH Tryd.prog laidList ((startWorld os).forCall (fun _ _ => 0) ⟨#[], args, []⟩).memory :=
  laidMetH_of_parts3 (fuel := 8) (laidMet_of_run' 8 (by kernel_rfl) (by kernel_rfl)) (by kernel_rfl) (by kernel_rfl)

/-! ### how much an argument weighs -/
theorem wt_of {H : Type} {P : Program} {ts vs : List TypeId} {ds : List (DataW H)} (h : (DataW.weightsEach P (ts ++ vs) (ds ++ [])).all (· ≤ reachBytes) = true) (hl : vs = [] := by rfl) : (DataW.weightsEach P ts ds).all (· ≤ reachBytes) = true := by
  subst hl; simpa only [List.append_nil] using h
theorem wt_skip {H : Type} {P : Program} {t : TypeId} {ts : List TypeId} {d : DataW H} {ds : List (DataW H)} (h : (DataW.weightsEach P (t :: ts) (d :: ds)).all (· ≤ reachBytes) = true) : (DataW.weightsEach P ts ds).all (· ≤ reachBytes) = true := by
  rw [DataW.weightsEach, List.all_append, Bool.and_eq_true] at h; exact h.2
theorem wt_head {H : Type} {P : Program} {t : TypeId} {ts : List TypeId} {d : DataW H} {ds : List (DataW H)} (h : (DataW.weightsEach P (t :: ts) (d :: ds)).all (· ≤ reachBytes) = true) : (d.weights P t).all (· ≤ reachBytes) = true := by
  rw [DataW.weightsEach, List.all_append, Bool.and_eq_true] at h; exact h.1
theorem reach_is : reachBytes = 140737488351232 := rfl
theorem wt_str {H : Type} {P : Program} {t : TypeId} {ts : List TypeId} {s : ByteArray} {ds : List (DataW H)} (h : (DataW.weightsEach P (t :: ts) (.lit (.string s.data.toList) :: ds)).all (· ≤ reachBytes) = true) : s.size ≤ 140737488355320 ∧ (DataW.weightsEach P ts ds).all (· ≤ reachBytes) = true := by
  refine ⟨?_, wt_skip h⟩
  have h1 := wt_head h
  rw [DataW.weights] at h1
  simp only [List.all_cons, List.all_nil, Bool.and_true] at h1
  have h2 : s.data.toList.length ≤ reachBytes := of_decide_eq_true h1
  rw [len_s, reach_is] at h2
  omega
section
variable {H : Type} {enc : TypeId × Value → H} {W : World} {base : Nat} {sp : Nat → Bool} {held : Bool}
theorem rng_i64 {x : Int} (h : (Lit.int .i64 x).wf = true) : -9223372036854775808 ≤ x ∧ x ≤ 9223372036854775807 := by
  have h1 : IntKind.i64.min = -9223372036854775808 := rfl
  have h2 : IntKind.i64.max = 9223372036854775807 := rfl
  simp only [Lit.wf, Bool.and_eq_true, decide_eq_true_eq] at h
  omega
theorem cellsT : Tryd.prog.cellsOf 32 = 4 := by kernel_rfl
/-- The weights of a token's parts. -/
theorem wt_tok {ts : List TypeId} {ds : List (DataW H)} {d0 d1 d3 : DataW H} {s : ByteArray} (h : (DataW.weightsEach Tryd.prog (32 :: ts) (.agg [d0, d1, .lit (.string s.data.toList), d3] :: ds)).all (· ≤ reachBytes) = true) : s.size ≤ 140737488355320 := by
  have h1 := wt_head h
  rw [DataW.weights, Tryd.underlying32] at h1
  exact (wt_str (wt_skip (wt_skip h1))).1
theorem tok_parts {n : Nat} {v0 v1 v2 v3 : Value} {y0 y1 y2 y3 : DataW H × List MemPlace} (h0 : DataW.trod enc Tryd.prog W base sp held n 3 [v0] = some y0) (h1 : DataW.trod enc Tryd.prog W base sp held n 3 [v1] = some y1) (h2 : DataW.trod enc Tryd.prog W base sp held n 9 [v2] = some y2) (h3 : DataW.trod enc Tryd.prog W base sp held n 2 [v3] = some y3) :
    ∃ (t : Tk) (s : ByteArray), v0 = .int .i64 t.k ∧ v1 = .int .i64 t.a ∧ v2 = .string (bs t.w) ∧ v3 = .int .i64 t.n ∧ s.data.toList = t.w ∧ y2.1 = .lit (.string s.data.toList) ∧ -9223372036854775808 ≤ t.n ∧ t.n ≤ 9223372036854775807 := by
  obtain ⟨k, e0, _, _⟩ := DataW.trod_int Tryd.underlying3 h0
  obtain ⟨a, e1, _, _⟩ := DataW.trod_int Tryd.underlying3 h1
  obtain ⟨s, e2, e2', _⟩ := DataW.trod_string Tryd.underlying9 h2
  obtain ⟨n, e3, _, w3⟩ := DataW.trod_int Tryd.underlying2 h3
  have hr := rng_i64 w3
  simp at e0 e1 e2 e3
  subst e0 e1 e2 e3
  exact ⟨⟨k, a, s.data.toList, n⟩, s, rfl, rfl, by rw [bs_of], rfl, rfl, by rw [e2'], hr.1, hr.2⟩
theorem open_token {r : Go.Reach} {b0 : Nat} {v : Value} {d : DataW H} {p : List MemPlace} {ts : List TypeId} {ds : List (DataW H)} (hval : Value.okWide Tryd.prog W r b0 32 v) (h : DataW.Trod enc Tryd.prog W base sp held 32 v d p)
    (hw : (DataW.weightsEach Tryd.prog (32 :: ts) (d :: ds)).all (· ≤ reachBytes) = true) : ∃ t : Tk, v = .agg #[.int .i64 t.k, .int .i64 t.a, .string (bs t.w), .int .i64 t.n] ∧ TkOk t := by
  obtain ⟨v0, v1, v2, v3, y0, y1, y2, y3, n, rfl, rfl, _, h0, h1, h2, h3⟩ := Go.Joins.open_agg4 Tryd.underlying32 (by kernel_rfl) cellsT hval h
  obtain ⟨t, s, rfl, rfl, rfl, rfl, hs, hy, hn⟩ := tok_parts h0 h1 h2 h3
  rw [hy] at hw
  have := wt_tok hw
  refine ⟨t, rfl, hn, ?_⟩
  rw [← hs, len_s]; exact this
end
end Go.Proofs.YtphcjpomneejmaaDoor
