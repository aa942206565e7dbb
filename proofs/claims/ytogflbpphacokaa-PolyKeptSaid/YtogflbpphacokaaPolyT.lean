/- The map of a call of package poly: its keys are exponents, its elements factors. -/
import Derived.Maps.RangeWalk
import Derived.Maps.OwnOps
import Derived.Maps.OwnSet
import Derived.Maps.Ext
import Derived.DeepKeys4
import Derived.WideKeyEntry
import Derived.Test.YtogflbpphacokaaPolyS
namespace Go.Proofs.Ytogflbpphacokaa
open Go.RowKit

theorem laidOut : laidOutB Try.prog = true := by kernel_rfl
theorem keyLaw : WideMaps.KeyLaw Try.prog 52 :=
  deep_law_laid laidOut (m := 2) (by omega) (of_decide_eq_true (by kernel_rfl)) (by kernel_rfl) (by rw [Try.underlying52])
theorem keyed : Maps.Keyed Try.prog 52 := Maps.Keyed.of_law keyLaw

def KL (m : Mo) : Lit := .string (keyBytes [.int .u8 m.e0, .int .u8 m.e1, .int .u8 m.e2, .int .u8 m.e3, .int .u8 m.e4, .int .u8 m.e5])
theorem cellsOf52 : Try.prog.cellsOf 52 = 6 := by kernel_rfl
theorem cellsOf5 : Try.prog.cellsOf 5 = 1 := by kernel_rfl
theorem keyType52 : Try.prog.keyType 52 = true := by kernel_rfl
theorem wf_u8 {x : Int} (h : 0 ≤ x ∧ x ≤ 255) : (Lit.int .u8 x).wf = true := by
  have h1 : IntKind.u8.min = 0 := rfl
  have h2 : IntKind.u8.max = 255 := rfl
  simp only [Lit.wf, Bool.and_eq_true, decide_eq_true_eq]
  omega
theorem keyOf_mk {m : Mo} (h : m.wf) : keyOf Try.prog 52 (.agg #[.int .u8 m.e0, .int .u8 m.e1, .int .u8 m.e2, .int .u8 m.e3, .int .u8 m.e4, .int .u8 m.e5]) = some (KL m) := by
  obtain ⟨h0, h1, h2, h3, h4, h5⟩ := Mo.es h
  have hs : ∃ n, Try.prog.types.size + 1 = n + 2 := ⟨Try.prog.types.size - 1, by have : 1 ≤ Try.prog.types.size := of_decide_eq_true (by kernel_rfl); omega⟩
  obtain ⟨n, hn⟩ := hs
  unfold keyOf
  rw [Try.underlying52]
  have hf : (.agg #[.int .u8 m.e0, .int .u8 m.e1, .int .u8 m.e2, .int .u8 m.e3, .int .u8 m.e4, .int .u8 m.e5] : Value).formed Try.prog 52 = true := by simp [Value.formed, Try.underlying52, cellsOf52]
  have hr : List.range 6 = [0, 1, 2, 3, 4, 5] := by decide
  simp only [keyType52, hf, Bool.and_self, if_true, hn]
  simp [Program.keyLits, Try.underlying52, Try.underlying5, cellsOf52, cellsOf5, Value.cells, hr, wf_u8 h0, wf_u8 h1, wf_u8 h2, wf_u8 h3, wf_u8 h4, wf_u8 h5, KL]
theorem keyLits5 {n : Nat} {l : List Value} {ls : List Lit} (h : Try.prog.keyLits (n + 1) 5 l = some ls) : ∃ x, l = [.int .u8 x] ∧ ls = [.int .u8 x] ∧ 0 ≤ x ∧ x ≤ 255 := by
  match l with
  | [] => simp [Program.keyLits, Try.underlying5] at h
  | [c] =>
    cases c <;> simp [Program.keyLits, Try.underlying5] at h
    rename_i k x
    obtain ⟨⟨rfl, hw⟩, rfl⟩ := h
    have h1 : IntKind.u8.min = 0 := rfl
    have h2 : IntKind.u8.max = 255 := rfl
    simp only [Lit.wf, Bool.and_eq_true, decide_eq_true_eq] at hw
    exact ⟨x, rfl, rfl, by omega, by omega⟩
  | _ :: _ :: _ => simp [Program.keyLits, Try.underlying5] at h
theorem keyOf_inv {key : Value} {kl : Lit} (h : keyOf Try.prog 52 key = some kl) : ∃ m : Mo, m.wf ∧ m.n = 0 ∧ key = .agg #[.int .u8 m.e0, .int .u8 m.e1, .int .u8 m.e2, .int .u8 m.e3, .int .u8 m.e4, .int .u8 m.e5] ∧ kl = KL m := by
  have hs : ∃ n, Try.prog.types.size + 1 = n + 2 := ⟨Try.prog.types.size - 1, by have : 1 ≤ Try.prog.types.size := of_decide_eq_true (by kernel_rfl); omega⟩
  obtain ⟨n, hn⟩ := hs
  obtain ⟨n', hn'⟩ : ∃ n', n' = n + 1 := ⟨_, rfl⟩
  rw [show n + 2 = (n + 1) + 1 from rfl, ← hn'] at hn
  have hr : List.range 6 = [0, 1, 2, 3, 4, 5] := by decide
  unfold keyOf at h
  rw [Try.underlying52] at h
  simp only [keyType52, Bool.true_and] at h
  split at h
  · rename_i hf
    cases key <;> simp [Value.formed, Try.underlying52, cellsOf52] at hf
    rename_i cs
    obtain ⟨l⟩ := cs
    match l, hf with
    | [c0, c1, c2, c3, c4, c5], _ =>
      simp only [hn] at h
      simp only [Program.keyLits, Try.underlying52, cellsOf52, cellsOf5, Value.cells, hr, List.length_cons, List.length_nil, if_true] at h
      obtain ⟨ls, hls, rfl⟩ := Option.map_eq_some_iff.1 h
      obtain ⟨lss, hlss, rfl⟩ := Option.map_eq_some_iff.1 hls
      simp only [List.mapM_cons, List.mapM_nil, bind, pure, Option.bind_eq_some_iff, Option.some.injEq] at hlss
      obtain ⟨l0, g0, r0, ⟨l1, g1, r1, ⟨l2, g2, r2, ⟨l3, g3, r3, ⟨l4, g4, r4, ⟨l5, g5, r5, rfl, rfl⟩, rfl⟩, rfl⟩, rfl⟩, rfl⟩, rfl⟩ := hlss
      subst hn'
      obtain ⟨x0, e0, rfl, w0⟩ := keyLits5 g0
      obtain ⟨x1, e1, rfl, w1⟩ := keyLits5 g1
      obtain ⟨x2, e2, rfl, w2⟩ := keyLits5 g2
      obtain ⟨x3, e3, rfl, w3⟩ := keyLits5 g3
      obtain ⟨x4, e4, rfl, w4⟩ := keyLits5 g4
      obtain ⟨x5, e5, rfl, w5⟩ := keyLits5 g5
      simp at e0 e1 e2 e3 e4 e5
      subst e0 e1 e2 e3 e4 e5
      exact ⟨⟨0, x0, x1, x2, x3, x4, x5⟩, Mo.wf_mk (by show -9223372036854775808 ≤ (0 : Int) ∧ (0 : Int) ≤ 9223372036854775807; omega) w0 w1 w2 w3 w4 w5, rfl, rfl, rfl⟩
  · cases h
theorem KL_inj {a b : Mo} (ha : a.wf) (hb : b.wf) (h : KL a = KL b) : a.code = b.code := by
  have h1 := keyOf_mk ha
  have h2 := keyOf_mk hb
  rw [← h] at h2
  have e := keyed.inj h1 h2
  injection e with e
  injection e with e
  simp at e
  obtain ⟨e0, e1, e2, e3, e4, e5⟩ := e
  unfold Mo.code
  rw [e0, e1, e2, e3, e4, e5]
theorem KL_of {a b : Mo} (ha : a.wf) (hb : b.wf) (h : a.code = b.code) : KL a = KL b := by
  obtain ⟨e0, e1, e2, e3, e4, e5⟩ := Mo.code_inj ha hb h
  unfold KL; rw [e0, e1, e2, e3, e4, e5]

/-- Block b is a map of at most n entries, whose element at a monomial's exponents is c of their number. -/
def MapC (w : World) (b n : Nat) (c : Int → Int) : Prop :=
  ∃ D : DataW Unit, w.ownsMap Try.prog 52 (plainElem Try.prog 2) b n D ∧ Maps.IsMap D ∧ ∀ m : Mo, m.wf → D.atKey (KL m) (.lit (.int .i64 0)) = .lit (.int .i64 (c m.code))
theorem zero2 (w : World) : (zeroValue 2).run Try.prog w = .ok (.int .i64 0) w := by kernel_rfl

theorem MapC.made (w : World) : MapC (w.alloc (.map #[] 0)) w.heap.size 0 fun _ => 0 :=
  ⟨.map [], World.ownsMap_made _ _ _ _, ⟨[], rfl⟩, fun _ _ => rfl⟩
theorem MapC.lt {w : World} {b n : Nat} {c : Int → Int} (h : MapC w b n c) : b < w.heap.size := by
  obtain ⟨D, h, _⟩ := h
  exact h.lt
theorem MapC.kept {w w' : World} {b n : Nat} {c : Int → Int} {row : Option Nat} (h : MapC w b n c) (hg : w.grownBy w' row) (hne : some b ≠ row) : MapC w' b n c := by
  obtain ⟨D, h, h2⟩ := h
  exact ⟨D, h.kept hg hne, h2⟩
theorem MapC.gr {w w' : World} {b n : Nat} {c : Int → Int} (h : MapC w b n c) (hg : Gr w w') : MapC w' b n c := by
  have hl := h.lt
  obtain ⟨D, ⟨es, clock, hb, h1⟩, h2⟩ := h
  exact ⟨D, ⟨es, clock, (hg.below.block b hl).trans hb, h1⟩, h2⟩
theorem MapC.lookup {w : World} {b n : Nat} {c : Int → Int} (h : MapC w b n c) {m : Mo} (hm : m.wf) : (Instr.lookup 51 (.map (some b)) (.agg #[.int .u8 m.e0, .int .u8 m.e1, .int .u8 m.e2, .int .u8 m.e3, .int .u8 m.e4, .int .u8 m.e5]) false).run Try.prog w = .ok (.int .i64 (c m.code)) w := by
  obtain ⟨D, h, _, h2⟩ := h
  obtain ⟨x, hrun, hat, _⟩ := h.lookup_int keyed Try.underlying51 Try.underlying2 (zero2 w) (keyOf_mk hm)
  rw [h2 m hm] at hat
  injection hat with hat
  injection hat with _ hat
  rw [hrun, hat]
theorem MapC.add {w : World} {b n : Nat} {c : Int → Int} (h : MapC w b n c) (hn : n < maxLen) {m : Mo} (hm : m.wf) {x : Int} (hx : (Lit.int .i64 x).wf = true) :
    ∃ (v0 : Value) (st : Nat) (w1 w2 : World), (Instr.mapEntry 51 (.map (some b)) (.agg #[.int .u8 m.e0, .int .u8 m.e1, .int .u8 m.e2, .int .u8 m.e3, .int .u8 m.e4, .int .u8 m.e5])).run Try.prog w = .ok (.tuple #[v0, goInt st]) w1 ∧ (Instr.entryStore 51 (.map (some b)) (goInt st) (.int .i64 x)).run Try.prog w1 = .ok () w2 ∧
      MapC w2 b (n + 1) (fun k => if k = m.code then x else c k) ∧ w.grownBy w2 (some b) := by
  obtain ⟨D, hown, hmap, h2⟩ := h
  have hval : plainElem (H := Unit) Try.prog 2 (.int .i64 x) = some (.lit (.int .i64 x), []) := plainElem_int Try.underlying2 hx
  obtain ⟨w', hrun, hown', hgr⟩ := hown.update keyed Try.underlying51 hn (keyOf_mk hm) hval
  obtain ⟨es, clock, hb, F, hs, hD⟩ := hown
  obtain ⟨v0, st, es1, clock1, e1, _, e2⟩ := WideElems.entry_then_store keyLaw Try.underlying51 zero2 hb F (keyOf_mk hm)
  have hb1 : (ChangeMaps.setBlock w b (.map es1 clock1)).heap[b]? = some (.map es1 clock1) := ChangeMaps.heap_setBlock_same hb _
  obtain ⟨es', clock', e3, e4⟩ := e2 _ (.int .i64 x) hb1
  have hw : w' = ChangeMaps.setBlock w b (.map es' clock') := by
    rw [hrun] at e4; injection e4
  have hss : ChangeMaps.setBlock (ChangeMaps.setBlock w b (.map es1 clock1)) b (.map es' clock') = ChangeMaps.setBlock w b (.map es' clock') := by
    simp [ChangeMaps.setBlock]
  refine ⟨v0, st, _, _, e1, e3, ?_, ?_⟩
  · rw [hss, ← hw]
    refine ⟨_, hown', hown'.isMap, fun m' hm' => ?_⟩
    show _ = DataW.lit (Lit.int .i64 (if m'.code = m.code then x else c m'.code))
    by_cases he : m'.code = m.code
    · rw [KL_of hm' hm he, Maps.atKey_put_same hmap (keyed.key (keyOf_mk hm)), if_pos he]
    · rw [Maps.atKey_put_other (fun e => he (KL_inj hm' hm e)), h2 m' hm', if_neg he]
  · rw [hss, ← hw]; exact hgr
end Go.Proofs.Ytogflbpphacokaa
