/- Layer 4, put together: ShwV, ShwG, ShwH, ShwN. -/
import Derived.Test.YtbapgdhcbfpdoaaGreatDoorZSd
import Derived.Test.YtbapgdhcbfpdoaaGreatDoorZPb
import Derived.Deep.AppendLies
import Derived.ChangeMaps
import Derived.MapKept
/- Own rows of values' texts, the code's (value: three cells). -/
namespace Go.Proofs.YtbapgdhcbfpdoaaGreatDoor
open Go.RowKit
set_option linter.unusedVariables false
theorem row_ty {w : World} {base size n k : Nat} {e : TypeId} {v : Value} {xs : List Value} (h : w.ownsRow base e size v n xs) (hk : v.ownBlock = some k) : ∃ cur, w.heap[k]? = some (.cells cur e (0, 0)) := by
  obtain ⟨_, ⟨rfl, _⟩ | ⟨g, cap, cur, rfl, _, hh, _⟩⟩ := h
  · simp [Value.ownBlock] at hk
  · simp [Value.ownBlock] at hk
    subst hk
    exact ⟨cur, hh⟩
def vlC (p : Pt) : List Value := [.string (bs p.s), .bool p.pl, .int .i64 p.ne]
theorem vlC_len : ∀ l : List Pt, (l.flatMap vlC).length = l.length * 3
  | [] => rfl
  | p :: r => by rw [List.flatMap_cons, List.length_append, vlC_len r]; simp only [vlC, List.length_cons, List.length_nil]; omega
theorem infoVl : (Tryz.prog.info? 110).map (fun i => (i.zero, i.size, i.bytes)) = some (some (.agg #[.string ⟨#[]⟩, .bool false, .int .i64 0]), 3, 32) := by kernel_rfl
theorem vlC_at : ∀ (l : List Pt) (k j : Nat), k < l.length → j < 3 → (l.flatMap vlC)[k * 3 + j]? = (vlC (l.getD k default))[j]?
  | p :: r, 0, j, _, hj => by
    rw [List.flatMap_cons, Nat.zero_mul, Nat.zero_add, List.getElem?_append_left (by simpa [vlC] using hj)]; rfl
  | p :: r, k + 1, j, hk, hj => by
    have h1 : (vlC p).length = 3 := rfl
    rw [List.flatMap_cons, List.getElem?_append_right (by omega), h1, show (k + 1) * 3 + j - 3 = k * 3 + j by omega]
    exact vlC_at r k j (by simpa using hk) hj
theorem vlC_one (l : List Pt) : ∀ u ∈ l.flatMap vlC, u.oneCell' = true := by
  intro u hu
  obtain ⟨p, _, hp⟩ := List.mem_flatMap.1 hu
  simp only [vlC, List.mem_cons, List.not_mem_nil, or_false] at hp
  rcases hp with rfl | rfl | rfl <;> rfl
/-- An own row of values' texts of the code's. -/
def OV (w : World) (B : Nat) (v : Value) (l : List Pt) : Prop := w.ownsRow B 110 3 v l.length (l.flatMap vlC)
theorem OV.nil (w : World) (B : Nat) : OV w B (.slice none 0 0) [] := World.ownsRow_nil w B _ _
theorem OV.shape {w : World} {B : Nat} {v : Value} {l : List Pt} (h : OV w B v l) : ∃ A c, v = .slice A l.length c ∧ l.length ≤ c := row_shape h
theorem OV.below {w w' : World} {B : Nat} {v : Value} {l : List Pt} (h : OV w B v l) (hb : Below w.heap.size w w') : OV w' B v l := row_keep h (fun k hk hl => hb.block k hl) (Nat.le_refl _)
theorem OV.keep {w w' : World} {B : Nat} {v : Value} {l : List Pt} (h : OV w B v l) (hb : ∀ (k : Nat) (cs : Array Value), w.heap[k]? = some (.cells cs 110 (0, 0)) → B ≤ k → w'.heap[k]? = w.heap[k]?) : OV w' B v l := row_keep h (fun k hk hl => by
  obtain ⟨cur, e⟩ := row_ty h hk
  exact hb k cur e (row_base h hk).1) (Nat.le_refl _)
theorem OV.take {w : World} {B n c : Nat} {A : Option Addr} {l r : List Pt} (h : OV w B (.slice A n c) (l ++ r)) : OV w B (.slice A l.length c) l := by
  unfold OV at h
  obtain ⟨A', c', e, _⟩ := row_shape h
  injection e with e1 e2 e3
  subst e1 e2 e3
  rw [List.flatMap_append] at h
  exact row_pop h (vlC_len l) (by simp)
theorem OV.cells {w : World} {B : Nat} {v : Value} {l : List Pt} (h : OV w B v l) (k : Nat) (hk : k < l.length) : ∃ g c, v = .slice (some ⟨g, 0, none⟩) l.length c ∧ l.length ≤ c ∧ g < w.heap.size ∧ B ≤ g ∧
    w.cell? ⟨g, k * 3, none⟩ = some (.string (bs (l.getD k default).s)) ∧ w.cell? ⟨g, k * 3 + 1, none⟩ = some (.bool (l.getD k default).pl) ∧ w.cell? ⟨g, k * 3 + 2, none⟩ = some (.int .i64 (l.getD k default).ne) := by
  have hlen := vlC_len l
  obtain ⟨g, c, rfl, hB, hg⟩ := World.ownsRow.form h (by omega)
  have hc : l.length ≤ c := by
    obtain ⟨_, _, e, hc⟩ := row_shape h
    injection e with _ _ e3
    subst e3
    exact hc
  have hat := fun j (hj : j < 3) => (World.ownsRow.cellAt h (k * 3 + j) (by have := hk; have := hlen; omega)).trans (vlC_at l k j hk hj)
  exact ⟨g, c, rfl, hc, hg, hB, hat 0 (by decide), hat 1 (by decide), hat 2 (by decide)⟩
theorem OV.lt {w : World} {B b : Nat} {v : Value} {l : List Pt} (h : OV w B v l) (hb : v.ownBlock = some b) : B ≤ b ∧ b < w.heap.size := row_base h hb
end Go.Proofs.YtbapgdhcbfpdoaaGreatDoor
/- The code's table of verbs: made, and read. Written by gen_shg.py. -/
namespace Go.Proofs.YtbapgdhcbfpdoaaGreatDoor
open Go.RowKit
set_option linter.unusedVariables false
set_option maxRecDepth 100000
def entA : List (Int × List UInt8 × List UInt8) → Nat → List MapEntry
  | [], _ => []
  | e :: r, k => ⟨.int .u8 e.1, .agg #[.string (bs e.2.1), .string (bs e.2.2)], k⟩ :: entA r (k + 1)
/-- The table, so many verbs in it. -/
def tabM (i : Nat) : Obj := .map (entA (tabE.take i) 0).toArray i
theorem findE (f : Int) : ∀ (l : List (Int × List UInt8 × List UInt8)) (c i : Nat), ∃ r, Instr.findNow (.int .u8) (.int .u8 f) (entA l c) i = some r ∧ (match r with
    | some (_, v) => v = .agg #[.string (bs (lookT l f).1), .string (bs (lookT l f).2)]
    | none => lookT l f = ([], []))
  | [], c, i => ⟨none, rfl, rfl⟩
  | e :: r, c, i => by
    have hs : Instr.sameNow (.int .u8) (.int .u8 f) (.int .u8 e.1) = some (f == e.1) := rfl
    cases hb : (f == e.1) with
    | true =>
      refine ⟨some (i, .agg #[.string (bs e.2.1), .string (bs e.2.2)]), ?_, ?_⟩
      · simp only [entA, Instr.findNow, hs, hb]
      · simp only [lookT, hb, if_true]
    | false =>
      obtain ⟨x, h1, h2⟩ := findE f r (c + 1) (i + 1)
      refine ⟨x, ?_, ?_⟩
      · simp only [entA, Instr.findNow, hs, hb]; exact h1
      · simp only [lookT, hb]; exact h2
theorem zeroVb (w : World) : (zeroValue 84).run Tryz.prog w = .ok (.agg #[.string (bs []), .string (bs [])]) w := by kernel_rfl
theorem key_u8 (w : World) (e : Bool) (k : Int) : (Instr.checkKey e 10000 34 (.int .u8 k)).run Tryz.prog w = .ok () w := MapKept.run_checkKey (n := 9999) Tryz.underlying34 (k := .int .u8 k) (show MapKept.IsKey (.int .u8) (.int .u8 k) from rfl) e
def entV : Option (Nat × Value) → Value
  | some (_, v) => v
  | none => .agg #[.string (bs []), .string (bs [])]
theorem look_gen (w : World) (b : Nat) (es : Array MapEntry) (c : Nat) (f : Int) (r : Option (Nat × Value)) (h : w.heap[b]? = some (.map es c)) (h1 : Instr.findNow (.int .u8) (.int .u8 f) es.toList 0 = some r) :
    (Instr.lookup 71 (.map (some b)) (.int .u8 f) false).run Tryz.prog w = .ok (entV r) w := by
  have hf := MapKept.run_findKey (P := Tryz.prog) (w := w) Tryz.underlying34 h1
  have hk := key_u8 w es.isEmpty f
  clear h1
  cases r with
  | none => simp [Instr.lookup, run_underlying Tryz.underlying71, MapKept.run_getObj_map h, hk, hf, Result.andThen, entV]; rfl
  | some q => simp [Instr.lookup, run_underlying Tryz.underlying71, MapKept.run_getObj_map h, hk, hf, Result.andThen, entV]
theorem look_verb (w : World) (b : Nat) (f : Int) (h : w.heap[b]? = some (tabM 26)) : (Instr.lookup 71 (.map (some b)) (.int .u8 f) false).run Tryz.prog w = .ok (.agg #[.string (bs (lookT tabE f).1), .string (bs (lookT tabE f).2)]) w := by
  obtain ⟨r, h1, h2⟩ := findE f tabE 0 0
  rw [look_gen w b (entA tabE 0).toArray 26 f r h h1]
  cases r with
  | none =>
    have h2 : lookT tabE f = ([], []) := h2
    rw [h2]
    rfl
  | some q =>
    have h2 : q.2 = .agg #[.string (bs (lookT tabE f).1), .string (bs (lookT tabE f).2)] := h2
    show Result.ok q.2 w = _
    rw [h2]
theorem ins_step (w : World) (es : Array MapEntry) (c : Nat) (k : Int) (v : Value) (hk : Instr.findNow (.int .u8) (.int .u8 k) es.toList 0 = some none) :
    (Instr.mapUpdate 71 (.map (some w.heap.size)) (.int .u8 k) v).run Tryz.prog (w.alloc (.map es c)) = .ok () (w.alloc (.map (es.push ⟨.int .u8 k, v, c⟩) (c + 1))) := by
  have hb := heap_alloc_new w (.map es c)
  have hf := MapKept.run_findKey (P := Tryz.prog) (w := w.alloc (.map es c)) Tryz.underlying34 hk
  have hck := fun e => key_u8 (w.alloc (.map es c)) e k
  have hset : (w.alloc (.map es c)).heap.setIfInBounds w.heap.size (.map (es.push ⟨.int .u8 k, v, c⟩) (c + 1)) = (w.alloc (.map (es.push ⟨.int .u8 k, v, c⟩) (c + 1))).heap := by
    simp [World.alloc, Array.setIfInBounds, -World.alloc_eq]
    apply Array.ext'
    simp
  clear hk
  simp [Instr.mapUpdate, run_underlying Tryz.underlying71, MapKept.run_getObj_map hb, hck, hf, MapKept.run_setObj_map _ hb, Result.andThen, hset]
  rfl
set_option maxHeartbeats 3200000 in
theorem verbs_any (w : World) : Calls Tryz.prog 25 #[] w fun e w' => e = .returned (.map (some w.heap.size)) ∧ w' = w.alloc (tabM 26) := by
  have h0 : (Instr.mapUpdate 71 (.map (some w.heap.size)) (.int .u8 1) (.agg #[.string ⟨#[43]⟩, .string ⟨#[43]⟩])).run Tryz.prog (w.alloc (.map #[] 0)) = .ok () (w.alloc (tabM 1)) := ins_step w (entA (tabE.take 0) 0).toArray 0 1 (.agg #[.string ⟨#[43]⟩, .string ⟨#[43]⟩]) rfl
  have h1 : (Instr.mapUpdate 71 (.map (some w.heap.size)) (.int .u8 2) (.agg #[.string ⟨#[45]⟩, .string ⟨#[45]⟩])).run Tryz.prog (w.alloc (tabM 1)) = .ok () (w.alloc (tabM 2)) := ins_step w (entA (tabE.take 1) 0).toArray 1 2 (.agg #[.string ⟨#[45]⟩, .string ⟨#[45]⟩]) rfl
  have h2 : (Instr.mapUpdate 71 (.map (some w.heap.size)) (.int .u8 3) (.agg #[.string ⟨#[42]⟩, .string ⟨#[42]⟩])).run Tryz.prog (w.alloc (tabM 2)) = .ok () (w.alloc (tabM 3)) := ins_step w (entA (tabE.take 2) 0).toArray 2 3 (.agg #[.string ⟨#[42]⟩, .string ⟨#[42]⟩]) rfl
  have h3 : (Instr.mapUpdate 71 (.map (some w.heap.size)) (.int .u8 4) (.agg #[.string ⟨#[37]⟩, .string ⟨#[37]⟩])).run Tryz.prog (w.alloc (tabM 3)) = .ok () (w.alloc (tabM 4)) := ins_step w (entA (tabE.take 3) 0).toArray 3 4 (.agg #[.string ⟨#[37]⟩, .string ⟨#[37]⟩]) rfl
  have h4 : (Instr.mapUpdate 71 (.map (some w.heap.size)) (.int .u8 5) (.agg #[.string ⟨#[124]⟩, .string ⟨#[124]⟩])).run Tryz.prog (w.alloc (tabM 4)) = .ok () (w.alloc (tabM 5)) := ins_step w (entA (tabE.take 4) 0).toArray 4 5 (.agg #[.string ⟨#[124]⟩, .string ⟨#[124]⟩]) rfl
  have h5 : (Instr.mapUpdate 71 (.map (some w.heap.size)) (.int .u8 6) (.agg #[.string ⟨#[109, 105, 110]⟩, .string ⟨#[109, 105, 110]⟩])).run Tryz.prog (w.alloc (tabM 5)) = .ok () (w.alloc (tabM 6)) := ins_step w (entA (tabE.take 5) 0).toArray 5 6 (.agg #[.string ⟨#[109, 105, 110]⟩, .string ⟨#[109, 105, 110]⟩]) rfl
  have h6 : (Instr.mapUpdate 71 (.map (some w.heap.size)) (.int .u8 7) (.agg #[.string ⟨#[109, 97, 120]⟩, .string ⟨#[109, 97, 120]⟩])).run Tryz.prog (w.alloc (tabM 6)) = .ok () (w.alloc (tabM 7)) := ins_step w (entA (tabE.take 6) 0).toArray 6 7 (.agg #[.string ⟨#[109, 97, 120]⟩, .string ⟨#[109, 97, 120]⟩]) rfl
  have h7 : (Instr.mapUpdate 71 (.map (some w.heap.size)) (.int .u8 8) (.agg #[.string ⟨#[]⟩, .string ⟨#[61]⟩])).run Tryz.prog (w.alloc (tabM 7)) = .ok () (w.alloc (tabM 8)) := ins_step w (entA (tabE.take 7) 0).toArray 7 8 (.agg #[.string ⟨#[]⟩, .string ⟨#[61]⟩]) rfl
  have h8 : (Instr.mapUpdate 71 (.map (some w.heap.size)) (.int .u8 9) (.agg #[.string ⟨#[]⟩, .string ⟨#[126]⟩])).run Tryz.prog (w.alloc (tabM 8)) = .ok () (w.alloc (tabM 9)) := ins_step w (entA (tabE.take 8) 0).toArray 8 9 (.agg #[.string ⟨#[]⟩, .string ⟨#[126]⟩]) rfl
  have h9 : (Instr.mapUpdate 71 (.map (some w.heap.size)) (.int .u8 10) (.agg #[.string ⟨#[]⟩, .string ⟨#[60]⟩])).run Tryz.prog (w.alloc (tabM 9)) = .ok () (w.alloc (tabM 10)) := ins_step w (entA (tabE.take 9) 0).toArray 9 10 (.agg #[.string ⟨#[]⟩, .string ⟨#[60]⟩]) rfl
  have h10 : (Instr.mapUpdate 71 (.map (some w.heap.size)) (.int .u8 11) (.agg #[.string ⟨#[]⟩, .string ⟨#[60, 61]⟩])).run Tryz.prog (w.alloc (tabM 10)) = .ok () (w.alloc (tabM 11)) := ins_step w (entA (tabE.take 10) 0).toArray 10 11 (.agg #[.string ⟨#[]⟩, .string ⟨#[60, 61]⟩]) rfl
  have h11 : (Instr.mapUpdate 71 (.map (some w.heap.size)) (.int .u8 12) (.agg #[.string ⟨#[]⟩, .string ⟨#[62, 61]⟩])).run Tryz.prog (w.alloc (tabM 11)) = .ok () (w.alloc (tabM 12)) := ins_step w (entA (tabE.take 11) 0).toArray 11 12 (.agg #[.string ⟨#[]⟩, .string ⟨#[62, 61]⟩]) rfl
  have h12 : (Instr.mapUpdate 71 (.map (some w.heap.size)) (.int .u8 13) (.agg #[.string ⟨#[]⟩, .string ⟨#[62]⟩])).run Tryz.prog (w.alloc (tabM 12)) = .ok () (w.alloc (tabM 13)) := ins_step w (entA (tabE.take 12) 0).toArray 12 13 (.agg #[.string ⟨#[]⟩, .string ⟨#[62]⟩]) rfl
  have h13 : (Instr.mapUpdate 71 (.map (some w.heap.size)) (.int .u8 14) (.agg #[.string ⟨#[]⟩, .string ⟨#[97, 110, 100]⟩])).run Tryz.prog (w.alloc (tabM 13)) = .ok () (w.alloc (tabM 14)) := ins_step w (entA (tabE.take 13) 0).toArray 13 14 (.agg #[.string ⟨#[]⟩, .string ⟨#[97, 110, 100]⟩]) rfl
  have h14 : (Instr.mapUpdate 71 (.map (some w.heap.size)) (.int .u8 15) (.agg #[.string ⟨#[]⟩, .string ⟨#[111, 114]⟩])).run Tryz.prog (w.alloc (tabM 14)) = .ok () (w.alloc (tabM 15)) := ins_step w (entA (tabE.take 14) 0).toArray 14 15 (.agg #[.string ⟨#[]⟩, .string ⟨#[111, 114]⟩]) rfl
  have h15 : (Instr.mapUpdate 71 (.map (some w.heap.size)) (.int .u8 16) (.agg #[.string ⟨#[126]⟩, .string ⟨#[]⟩])).run Tryz.prog (w.alloc (tabM 15)) = .ok () (w.alloc (tabM 16)) := ins_step w (entA (tabE.take 15) 0).toArray 15 16 (.agg #[.string ⟨#[126]⟩, .string ⟨#[]⟩]) rfl
  have h16 : (Instr.mapUpdate 71 (.map (some w.heap.size)) (.int .u8 17) (.agg #[.string ⟨#[]⟩, .string ⟨#[112, 111, 119]⟩])).run Tryz.prog (w.alloc (tabM 16)) = .ok () (w.alloc (tabM 17)) := ins_step w (entA (tabE.take 16) 0).toArray 16 17 (.agg #[.string ⟨#[]⟩, .string ⟨#[112, 111, 119]⟩]) rfl
  have h17 : (Instr.mapUpdate 71 (.map (some w.heap.size)) (.int .u8 32) (.agg #[.string ⟨#[105, 111, 116, 97]⟩, .string ⟨#[]⟩])).run Tryz.prog (w.alloc (tabM 17)) = .ok () (w.alloc (tabM 18)) := ins_step w (entA (tabE.take 17) 0).toArray 17 32 (.agg #[.string ⟨#[105, 111, 116, 97]⟩, .string ⟨#[]⟩]) rfl
  have h18 : (Instr.mapUpdate 71 (.map (some w.heap.size)) (.int .u8 33) (.agg #[.string ⟨#[115, 104, 97, 112, 101]⟩, .string ⟨#[]⟩])).run Tryz.prog (w.alloc (tabM 18)) = .ok () (w.alloc (tabM 19)) := ins_step w (entA (tabE.take 18) 0).toArray 18 33 (.agg #[.string ⟨#[115, 104, 97, 112, 101]⟩, .string ⟨#[]⟩]) rfl
  have h19 : (Instr.mapUpdate 71 (.map (some w.heap.size)) (.int .u8 34) (.agg #[.string ⟨#[114, 97, 118, 101, 108]⟩, .string ⟨#[]⟩])).run Tryz.prog (w.alloc (tabM 19)) = .ok () (w.alloc (tabM 20)) := ins_step w (entA (tabE.take 19) 0).toArray 19 34 (.agg #[.string ⟨#[114, 97, 118, 101, 108]⟩, .string ⟨#[]⟩]) rfl
  have h20 : (Instr.mapUpdate 71 (.map (some w.heap.size)) (.int .u8 35) (.agg #[.string ⟨#[114, 101, 118]⟩, .string ⟨#[]⟩])).run Tryz.prog (w.alloc (tabM 20)) = .ok () (w.alloc (tabM 21)) := ins_step w (entA (tabE.take 20) 0).toArray 20 35 (.agg #[.string ⟨#[114, 101, 118]⟩, .string ⟨#[]⟩]) rfl
  have h21 : (Instr.mapUpdate 71 (.map (some w.heap.size)) (.int .u8 36) (.agg #[.string ⟨#[116, 117, 114, 110]⟩, .string ⟨#[]⟩])).run Tryz.prog (w.alloc (tabM 21)) = .ok () (w.alloc (tabM 22)) := ins_step w (entA (tabE.take 21) 0).toArray 21 36 (.agg #[.string ⟨#[116, 117, 114, 110]⟩, .string ⟨#[]⟩]) rfl
  have h22 : (Instr.mapUpdate 71 (.map (some w.heap.size)) (.int .u8 37) (.agg #[.string ⟨#[]⟩, .string ⟨#[114, 104, 111]⟩])).run Tryz.prog (w.alloc (tabM 22)) = .ok () (w.alloc (tabM 23)) := ins_step w (entA (tabE.take 22) 0).toArray 22 37 (.agg #[.string ⟨#[]⟩, .string ⟨#[114, 104, 111]⟩]) rfl
  have h23 : (Instr.mapUpdate 71 (.map (some w.heap.size)) (.int .u8 38) (.agg #[.string ⟨#[]⟩, .string ⟨#[116, 97, 107, 101]⟩])).run Tryz.prog (w.alloc (tabM 23)) = .ok () (w.alloc (tabM 24)) := ins_step w (entA (tabE.take 23) 0).toArray 23 38 (.agg #[.string ⟨#[]⟩, .string ⟨#[116, 97, 107, 101]⟩]) rfl
  have h24 : (Instr.mapUpdate 71 (.map (some w.heap.size)) (.int .u8 39) (.agg #[.string ⟨#[]⟩, .string ⟨#[100, 114, 111, 112]⟩])).run Tryz.prog (w.alloc (tabM 24)) = .ok () (w.alloc (tabM 25)) := ins_step w (entA (tabE.take 24) 0).toArray 24 39 (.agg #[.string ⟨#[]⟩, .string ⟨#[100, 114, 111, 112]⟩]) rfl
  have h25 : (Instr.mapUpdate 71 (.map (some w.heap.size)) (.int .u8 40) (.agg #[.string ⟨#[]⟩, .string ⟨#[99, 97, 116]⟩])).run Tryz.prog (w.alloc (tabM 25)) = .ok () (w.alloc (tabM 26)) := ins_step w (entA (tabE.take 25) 0).toArray 25 40 (.agg #[.string ⟨#[]⟩, .string ⟨#[99, 97, 116]⟩]) rfl
  have hm : (Instr.makeMap 71 none).run Tryz.prog w = .ok (.map (some w.heap.size)) (w.alloc (.map #[] 0)) := by simp [Instr.makeMap]
  go_enter Tryz.func25, Tryz.ntmps25
  go_wp2
  go_ret
  exact ⟨rfl, rfl⟩
end Go.Proofs.YtbapgdhcbfpdoaaGreatDoor
/- The code's writer: its state, what it spends, puts and takes. -/
namespace Go.Proofs.YtbapgdhcbfpdoaaGreatDoor
open Go.RowKit
set_option linter.unusedVariables false
attribute [local go_sem ↓] Go.wp_at_zero Go.wp_at_succ
/-- The writer's box: its table, its values, the tokens that are left. -/
structure WB (w : World) (R M : Nat) (v : Value) (d : Int) : Prop where
  blk : w.heap[R]? = some (.cells #[.map (some M), v, .int .i64 d] 107 (0, 0))
  tab : w.heap[M]? = some (tabM 26)
  lt : M < R
theorem WB.cells {w : World} {R M : Nat} {v : Value} {d : Int} (h : WB w R M v d) : w.cell? ⟨R, 0, none⟩ = some (.map (some M)) ∧ w.cell? ⟨R, 1, none⟩ = some v ∧ w.cell? ⟨R, 2, none⟩ = some (.int .i64 d) ∧ w.frozen? ⟨R, 1, none⟩ = false ∧ w.frozen? ⟨R, 2, none⟩ = false := by
  refine ⟨?_, ?_, ?_, frozen_of_row _ _ _ _ _ h.blk, frozen_of_row _ _ _ _ _ h.blk⟩ <;> · rw [cell_of_row _ _ _ _ _ _ h.blk]; rfl
theorem WB.blt {w : World} {R M : Nat} {v : Value} {d : Int} (h : WB w R M v d) : R < w.heap.size := by
  rcases Nat.lt_or_ge R w.heap.size with h1 | h1
  · exact h1
  · have := h.blk; rw [Array.getElem?_eq_none h1] at this; cases this
theorem WB.keep {w w' : World} {R M : Nat} {v : Value} {d : Int} (h : WB w R M v d) (h1 : w'.heap[R]? = w.heap[R]?) (h2 : w'.heap[M]? = w.heap[M]?) : WB w' R M v d := ⟨h1.trans h.blk, h2.trans h.tab, h.lt⟩
theorem WB.below {w w' : World} {R M : Nat} {v : Value} {d : Int} (h : WB w R M v d) (hb : Below w.heap.size w w') : WB w' R M v d := h.keep (hb.block _ h.blt) (hb.block _ (Nat.lt_trans h.lt h.blt))
theorem WB.left {w : World} {R M : Nat} {v : Value} {d : Int} (h : WB w R M v d) (e : Int) : WB (w.setCell ⟨R, 2, none⟩ (.int .i64 e)) R M v e :=
  ⟨by rw [heap_setCell_same _ _ _ _ _ _ h.blk]; rfl, by
    have hb : Below R w (w.setCell ⟨R, 2, none⟩ (.int .i64 e)) := (Below.refl R w).setCell (p := ⟨R, 2, none⟩) (Nat.le_refl _) _
    rw [hb.block M h.lt]; exact h.tab, h.lt⟩
theorem WB.vals {w : World} {R M : Nat} {v : Value} {d : Int} (h : WB w R M v d) (v' : Value) : WB (w.setCell ⟨R, 1, none⟩ v') R M v' d :=
  ⟨by rw [heap_setCell_same _ _ _ _ _ _ h.blk]; rfl, by
    have hb : Below R w (w.setCell ⟨R, 1, none⟩ v') := (Below.refl R w).setCell (p := ⟨R, 1, none⟩) (Nat.le_refl _) v'
    rw [hb.block M h.lt]; exact h.tab, h.lt⟩
theorem set_bel (w : World) (R o : Nat) (v : Value) : Below R w (w.setCell ⟨R, o, none⟩ v) := (Below.refl R w).setCell (p := ⟨R, o, none⟩) (Nat.le_refl _) v
theorem set_oth {w : World} {R o k : Nat} {v : Value} (h : ¬ k = R) : (w.setCell ⟨R, o, none⟩ v).heap[k]? = w.heap[k]? := Fr.set.heap_set_other h
theorem OV.set {w : World} {B R o : Nat} {u v : Value} {l : List Pt} (h : OV w B v l) (hR : R < B) : OV (w.setCell ⟨R, o, none⟩ u) B v l := row_keep h (fun k hk hl => set_oth (by have := (row_base h hk).1; omega)) (Nat.le_refl _)
/-- The writer: its values, so many tokens left of so many. -/
structure WS (w : World) (R M : Nat) (L : Nat) (st : List Pt) (v : Value) (d : Nat) : Prop where
  box : WB w R M v d
  own : OV w (R + 1) v st.reverse
  sum : sumK st + d = L
  ne : neK st = true
  bnd : ∀ p ∈ st, p.s.length ≤ 24 * p.tk
set_option maxRecDepth 100000
set_option maxHeartbeats 1600000 in
theorem spend_any (w : World) (R M : Nat) (v : Value) (d k : Int) (h : WB w R M v d) (hd : 0 ≤ d ∧ d ≤ 1000000) (hk : 0 ≤ k ∧ k ≤ 9223372036854775807) : Calls Tryz.prog 99 #[.pointer (some ⟨R, 0, none⟩), .int .i64 k] w fun e w' => e = .returned (.bool (decide (k ≤ d))) ∧ w' = w.setCell ⟨R, 2, none⟩ (.int .i64 (d - k)) := by
  obtain ⟨c0, c1, c2, f1, f2⟩ := h.cells
  obtain ⟨hd1, hd2⟩ := hd
  obtain ⟨hk1, hk2⟩ := hk
  clear h
  have hw : wrap64 (d - k) = d - k := by unfold wrap64; omega
  go_enter Tryz.func99, Tryz.ntmps99
  go_wp2
  go_ret
  exact ⟨rfl, rfl⟩
theorem up_drew0 (w : World) : Below w.heap.size w w.drew := below_drewN (k := 1) (Below.refl _ _) (Nat.le_refl _)
theorem two_up (w : World) (x y : Obj) : Below w.heap.size w ((w.alloc x).alloc y).drew.drew := by
  have h : Below w.heap.size w ((w.alloc x).alloc y) := ((Below.refl _ _).alloc (Nat.le_refl _) _).alloc (by simp) _
  exact (h.trans ((up_drew0 _).mono (by simp; omega))).trans ((up_drew0 _).mono (by simp; omega))
theorem vlC_at0 {w : World} {b : Nat} {p : Pt} {fr : Nat × Nat} (h : w.heap[b]? = some (.cells (vlC p).toArray 110 fr)) : w.cell? ⟨b, 0, none⟩ = some (.string (bs p.s)) ∧ w.cell? ⟨b, 1, none⟩ = some (.bool p.pl) ∧ w.cell? ⟨b, 2, none⟩ = some (.int .i64 p.ne) := by
  refine ⟨?_, ?_, ?_⟩ <;> · rw [cell_of_row _ _ _ _ _ _ h]; rfl
set_option maxHeartbeats 3200000 in
theorem put_any (w : World) (R M : Nat) (v : Value) (d : Int) (l : List Pt) (p : Pt) (h : WB w R M v d) (ho : OV w (R + 1) v l) (hl : l.length ≤ 1000000) : Calls Tryz.prog 100 #[.pointer (some ⟨R, 0, none⟩), .agg #[.string (bs p.s), .bool p.pl, .int .i64 p.ne]] w fun e w' => e = .returned (.tuple #[]) ∧ ∃ v', WB w' R M v' d ∧ OV w' (R + 1) v' (l ++ [p]) ∧ Below R w w' := by
  obtain ⟨i0, hi, hz0, hz1, hz2⟩ := info_parts infoVl
  have HI := Lib.hid (And.intro hi (And.intro hz0 (And.intro hz1 hz2)))
  clear hi hz0 hz1 hz2
  obtain ⟨c0, c1, c2, f1, f2⟩ := h.cells
  have hlt := h.blt
  have hML := h.lt
  obtain ⟨A, ci, rfl, hci⟩ := ho.shape
  have HS := Lib.hid h
  have HO := Lib.hid ho
  clear h ho
  have nR : (Value.slice A l.length ci).ownBlock ≠ some R := fun h => by have := (row_base HO.out h).1; omega
  have nM : (Value.slice A l.length ci).ownBlock ≠ some M := fun h => by have := (row_base HO.out h).1; omega
  have HN := Lib.hid hl
  have hn1 : l.length + 1 ≤ maxLen := by unfold maxLen; omega
  have hn2 : (l.length + 1) * 32 ≤ 140737488355328 := by omega
  clear hl
  go_enter Tryz.func100, Tryz.ntmps100
  go_wp2_with fail
  obtain ⟨W, hW⟩ : ∃ W, W = w.alloc (.cells #[.string (bs p.s), .bool p.pl, .int .i64 p.ne] 110) := ⟨_, rfl⟩
  rw [← hW]
  have hWs : w.heap.size < W.heap.size := by rw [hW]; simp
  have hWb : Below w.heap.size w W := by rw [hW]; exact (Below.refl _ _).alloc (Nat.le_refl _) _
  have hWn : W.heap[w.heap.size]? = some (.cells (vlC p).toArray 110 (0, 0)) := by rw [hW]; exact heap_alloc_new w _
  obtain ⟨x0, x1, x2⟩ := vlC_at0 hWn
  have WB2 := HS.out.below hWb
  have WO2 := HO.out.below hWb
  clear c0 c1 c2 f1 f2 hlt hW
  obtain ⟨c0, c1, c2, f1, f2⟩ := WB2.cells
  have hlt := WB2.blt
  have HS2 := Lib.hid WB2
  have HO2 := Lib.hid WO2
  have HB2 := Lib.hid hWb
  clear WB2 WO2 hWb hWn
  go_region_law ((refine step_append_lies _ (by rfl) _ _ _ (by rfl) (R + 1) 110 i0 _ 3 32 Tryz.underlying105 HI.out.1 HI.out.2.1 HI.out.2.2.1 HI.out.2.2.2 rfl (by omega) (.slice A l.length ci) l.length (l.flatMap vlC) (by rfl) ((HO2.out.below ((Below.refl _ _).alloc (Nat.le_refl _) _)).below (up_drew0 _)) ⟨W.heap.size, 0, none⟩ 1 1 (vlC p) (by rfl) (by rfl) (World.news_of_block (cs := (vlC p).toArray) (t := 110) (fr := (0, 0)) (heap_alloc_new W _)) (fun u hu => vlC_one [p] u (by simpa using hu)) (by omega) hn1 hn2 (by simp; omega) (W.heap.size + 1) (by simp) ?_; intro gg cap w1 hown1 hgrow hat hlt1; have hw1 : w1.heap[R]? = W.heap[R]? := (hgrow.block R (by simp; omega) (Ne.symm nR)).trans (heap_alloc_old W _ hlt); have hm1 : w1.heap[M]? = W.heap[M]? := (hgrow.block M (by simp; omega) (Ne.symm nM)).trans (heap_alloc_old W _ (by omega)); have hf1 := (World.frozen?_of_block (a := ⟨R, 1, none⟩) hw1).trans f1; have hc1 := (World.cell?_of_block (a := ⟨R, 1, none⟩) hw1).trans c1))
  all_goals
    have hB1 : Below R w w1 := (HB2.out.mono (by have := HS.out.blt; omega)).trans (((Below.refl R W).alloc (by omega) _).trans ((up_drew0 _).mono (by simp; omega)) |>.grown hgrow (by simp; omega) fun k hk => by have := (row_base HO.out hk).1; omega)
    have hW1 := (HS2.out.keep hw1 hm1).vals (.slice (some ⟨gg, 0, none⟩) (l.length + 1) cap)
    have hO1 : OV w1 (R + 1) (.slice (some ⟨gg, 0, none⟩) (l.length + 1) cap) (l ++ [p]) := by
      unfold OV
      rw [List.flatMap_append, List.length_append]
      simpa using hown1
    have hfin : ∃ v', WB (w1.setCell ⟨R, 1, none⟩ (.slice (some ⟨gg, 0, none⟩) (l.length + 1) cap)) R M v' d ∧ OV (w1.setCell ⟨R, 1, none⟩ (.slice (some ⟨gg, 0, none⟩) (l.length + 1) cap)) (R + 1) v' (l ++ [p]) ∧ Below R w (w1.setCell ⟨R, 1, none⟩ (.slice (some ⟨gg, 0, none⟩) (l.length + 1) cap)) := ⟨_, hW1, hO1.set (by omega), hB1.trans (set_bel _ _ _ _)⟩
    refine bodyPost_ret (v := .tuple #[]) (R := fun e w' => e = .returned (.tuple #[]) ∧ ∃ v', WB w' R M v' d ∧ OV w' (R + 1) v' (l ++ [p]) ∧ Below R w w') (by simp [results, Tryz.results100, go_sem]) rfl ⟨rfl, hfin⟩
theorem idxVl (b len c k : Nat) (h1 : k < len) (w : World) : (Instr.indexAt 105 (.slice (some ⟨b, 0, none⟩) len c) (.int .i64 (k : Int))).run Tryz.prog w = .ok (.pointer (some ⟨b, k * 3, none⟩)) w := by
  have e := WideShapes.add_plain b 0 (k * 3)
  have h0 : (0 : Int) ≤ (k : Int) ∧ (k : Int) < (len : Int) := by omega
  go_simp
set_option maxHeartbeats 3200000 in
theorem take1_any (w : World) (R M : Nat) (v : Value) (d : Int) (l : List Pt) (p : Pt) (h : WB w R M v d) (ho : OV w (R + 1) v (l ++ [p])) (hl : l.length ≤ 1000000) : Calls Tryz.prog 103 #[.pointer (some ⟨R, 0, none⟩)] w fun e w' => e = .returned (.agg #[.string (bs p.s), .bool p.pl, .int .i64 p.ne]) ∧ ∃ v', WB w' R M v' d ∧ OV w' (R + 1) v' l ∧ Below R w w' ∧ Fr (fun k => k = R) w w' := by
  obtain ⟨c0, c1, c2, f1, f2⟩ := h.cells
  have hlt := h.blt
  have hML := h.lt
  obtain ⟨g, c, rfl, hc, hg, hRg, x0, x1, x2⟩ := ho.cells l.length (by simp)
  have hp : (l ++ [p]).getD l.length default = p := by simp
  rw [hp] at x0 x1 x2
  have hll : (l ++ [p]).length = l.length + 1 := by simp
  rw [hll] at c1 hc
  have HS := Lib.hid h
  have HO := Lib.hid (show OV w (R + 1) (.slice (some ⟨g, 0, none⟩) (l.length + 1) c) (l ++ [p]) by rw [← hll]; exact ho)
  have q1 := idxVl g (l.length + 1) c l.length (by omega)
  obtain ⟨n, hn⟩ : ∃ n, n = l.length := ⟨_, rfl⟩
  rw [← hn] at c1 hc HO q1 x0 x1 x2 hl
  have HN := Lib.hid hn
  clear h ho hp hll hn
  have hng : ¬ R = g := by omega
  go_enter Tryz.func103, Tryz.ntmps103
  go_wp2
  go_region
  go_wp2
  go_region
  go_wp2
  have hl2 : l.length = n := HN.out.symm
  have hw2 := HS.out.vals (.slice (some ⟨g, 0, none⟩) n c)
  have ho2 : OV (w.setCell ⟨R, 1, none⟩ (.slice (some ⟨g, 0, none⟩) n c)) (R + 1) (.slice (some ⟨g, 0, none⟩) n c) l := by
    have := HO.out.take
    rw [hl2] at this
    exact this.set (by omega)
  have hb2 := two_up (w.setCell ⟨R, 1, none⟩ (.slice (some ⟨g, 0, none⟩) n c)) (.cells #[.string (bs p.s), .bool p.pl, .int .i64 p.ne] 110) (.cells #[.string (bs p.s), .bool p.pl, .int .i64 p.ne] 110)
  have hfin := Exists.intro (p := fun v' => WB (((w.setCell ⟨R, 1, none⟩ (.slice (some ⟨g, 0, none⟩) n c)).alloc (.cells #[.string (bs p.s), .bool p.pl, .int .i64 p.ne] 110)).alloc (.cells #[.string (bs p.s), .bool p.pl, .int .i64 p.ne] 110)).drew.drew R M v' d ∧ OV (((w.setCell ⟨R, 1, none⟩ (.slice (some ⟨g, 0, none⟩) n c)).alloc (.cells #[.string (bs p.s), .bool p.pl, .int .i64 p.ne] 110)).alloc (.cells #[.string (bs p.s), .bool p.pl, .int .i64 p.ne] 110)).drew.drew (R + 1) v' l ∧ Below R w (((w.setCell ⟨R, 1, none⟩ (.slice (some ⟨g, 0, none⟩) n c)).alloc (.cells #[.string (bs p.s), .bool p.pl, .int .i64 p.ne] 110)).alloc (.cells #[.string (bs p.s), .bool p.pl, .int .i64 p.ne] 110)).drew.drew ∧ Fr (fun k => k = R) w (((w.setCell ⟨R, 1, none⟩ (.slice (some ⟨g, 0, none⟩) n c)).alloc (.cells #[.string (bs p.s), .bool p.pl, .int .i64 p.ne] 110)).alloc (.cells #[.string (bs p.s), .bool p.pl, .int .i64 p.ne] 110)).drew.drew) _ ⟨hw2.below hb2, ho2.below hb2, (set_bel _ _ _ _).trans (hb2.mono (by simp; omega)), ((Fr.refl (fun k => k = R) w).set (.inl rfl) _ _).trans (below_fr hb2 _)⟩
  exact bodyPost_ret (v := .agg #[.string (bs p.s), .bool p.pl, .int .i64 p.ne]) (by simp [results, Tryz.results103, go_sem]) rfl ⟨rfl, hfin⟩
end Go.Proofs.YtbapgdhcbfpdoaaGreatDoor
/- The code's writer: a verb's sign. -/
namespace Go.Proofs.YtbapgdhcbfpdoaaGreatDoor
open Go.RowKit
set_option linter.unusedVariables false
theorem fieldV1 (a b : ByteArray) (w : World) : (Instr.field 84 (.agg #[.string a, .string b]) 0).run Tryz.prog w = .ok (.string a) w := by kernel_rfl
theorem fieldV2 (a b : ByteArray) (w : World) : (Instr.field 84 (.agg #[.string a, .string b]) 1).run Tryz.prog w = .ok (.string b) w := by kernel_rfl
theorem markOf_any (how : Int) (w : World) : Calls Tryz.prog 111 #[.int .i64 how] w fun e w' => e = .returned (.string (bs (markW how))) ∧ w' = w := by
  by_cases h5 : how = 5
  · subst h5
    go_enter Tryz.func111, Tryz.ntmps111
    go_wp2
    go_ret
    exact ⟨rfl, rfl⟩
  by_cases h6 : how = 6
  · subst h6
    go_enter Tryz.func111, Tryz.ntmps111
    go_wp2
    go_ret
    exact ⟨rfl, rfl⟩
  by_cases h7 : how = 7
  · subst h7
    go_enter Tryz.func111, Tryz.ntmps111
    go_wp2
    go_ret
    exact ⟨rfl, rfl⟩
  have hm : markW how = [] := by unfold markW; rw [if_neg h5, if_neg h6, if_neg h7]
  have H := Lib.hid hm
  have e5 : (how == 5) = false := by rw [beq_eq_false_iff_ne]; exact h5
  have e6 : (how == 6) = false := by rw [beq_eq_false_iff_ne]; exact h6
  have e7 : (how == 7) = false := by rw [beq_eq_false_iff_ne]; exact h7
  clear hm h5 h6 h7
  go_enter Tryz.func111, Tryz.ntmps111
  go_wp2
  go_ret
  rw [H.out]
  exact ⟨rfl, rfl⟩
/-- What a verb of an item is made of: its text and its mark. -/
def signB (how fn : Int) : Bool := decide (verbW fn (how != 3) ≠ []) && (decide (how = 3) || decide (how = 4) || decide (fn ≤ 17))
def SgYes (w : World) (R M : Nat) (v : Value) (d : Int) (how fn : Int) (e : Ending) (w' : World) : Prop :=
  e = .returned (.tuple #[.string (bs (verbW fn (how != 3) ++ markW how)), .bool (decide (1 + ((markW how).length : Int) ≤ d))]) ∧ WB w' R M v (d - (1 + ((markW how).length : Int))) ∧ Below R w w' ∧ ∀ l, OV w (R + 1) v l → OV w' (R + 1) v l
def SgNo (w : World) (R : Nat) (e : Ending) (w' : World) : Prop := e = .returned (.tuple #[.string ⟨#[]⟩, .bool false]) ∧ Below R w w'
def itW (how pl fn : Int) (nm : List UInt8) (A : Option Addr) (n c : Nat) : Value := .agg #[.int .i64 how, .int .i64 pl, .int .u8 fn, .string (bs nm), .slice A n c]
theorem SgYes.of {w W : World} {R M : Nat} {v : Value} {d how fn : Int} (h : WB w R M v d) (hb : Below w.heap.size w W) : SgYes w R M v d how fn (.returned (.tuple #[.string (bs (verbW fn (how != 3) ++ markW how)), .bool (decide (1 + ((markW how).length : Int) ≤ d))])) (W.setCell ⟨R, 2, none⟩ (.int .i64 (d - (1 + ((markW how).length : Int))))) :=
  ⟨rfl, (h.below hb).left _, (hb.mono (Nat.le_of_lt h.blt)).trans (set_bel _ _ _ _), fun l ho => (ho.below hb).set (by omega)⟩
theorem lookT_lenl (f : Int) : ∀ l : List (Int × List UInt8 × List UInt8), (∀ e ∈ l, e.2.1.length ≤ 5 ∧ e.2.2.length ≤ 5) → (lookT l f).1.length ≤ 5 ∧ (lookT l f).2.length ≤ 5
  | [], _ => ⟨Nat.zero_le _, Nat.zero_le _⟩
  | e :: r, h => by
    unfold lookT
    split
    · exact h e (List.mem_cons_self ..)
    · exact lookT_lenl f r fun x hx => h x (List.mem_cons_of_mem _ hx)
theorem lookT_len (f : Int) : (lookT tabE f).1.length ≤ 5 ∧ (lookT tabE f).2.length ≤ 5 := lookT_lenl f tabE (by decide)
theorem cat_bs (a b : List UInt8) : bs a ++ bs b = bs (a ++ b) := by
  unfold bs; rw [ByteArray.mk_append_mk]
set_option maxRecDepth 100000
set_option maxHeartbeats 3200000 in
theorem sign_3yes (w : World) (R M : Nat) (v : Value) (d : Int) (h : WB w R M v d) (hd : 0 ≤ d ∧ d ≤ 1000000) (pl fn : Int) (nm : List UInt8) (A : Option Addr) (n c : Nat) (hv : verbW fn false ≠ []) :
    Calls Tryz.prog 102 #[.pointer (some ⟨R, 0, none⟩), itW 3 pl fn nm A n c] w (SgYes w R M v d 3 fn) := by
  obtain ⟨c0, c1, c2, f1, f2⟩ := h.cells
  have hlt := h.blt
  have hML := h.lt
  have HS := Lib.hid h
  have HD := Lib.hid hd
  obtain ⟨T, hT⟩ : ∃ T, T = lookT tabE fn := ⟨_, rfl⟩
  have hv1 : verbW fn false = T.1 := by rw [lookT_verb, hT]; rfl
  rw [hv1] at hv
  have HV := Lib.hid hv1
  have hbe : ((bs T.1).toList == []) = false := by rw [cmpB]; exact decide_eq_false hv
  have hz : (bs T.1).size ≤ 5 := by rw [bs_size, hT]; exact (lookT_len fn).1
  have hlk : ∀ W : World, W.heap[M]? = some (tabM 26) → (Instr.lookup 71 (.map (some M)) (.int .u8 fn) false).run Tryz.prog W = .ok (.agg #[.string (bs T.1), .string (bs T.2)]) W := fun W hW => by rw [hT]; exact look_verb W M fn hW
  obtain ⟨W, hW⟩ : ∃ W, W = w.alloc (.cells #[.int .i64 3, .int .i64 pl, .int .u8 fn, .string (bs nm), .slice A n c] 37) := ⟨_, rfl⟩
  have hWb : Below w.heap.size w W := by rw [hW]; exact (Below.refl _ _).alloc (Nat.le_refl _) _
  have hWn : W.heap[w.heap.size]? = some (.cells #[.int .i64 3, .int .i64 pl, .int .u8 fn, .string (bs nm), .slice A n c] 37 (0, 0)) := by rw [hW]; exact heap_alloc_new w _
  have b0 := fun j => (show (W.drewN j).cell? ⟨w.heap.size, 0, none⟩ = some (.int .i64 3) by rw [show (W.drewN j).cell? ⟨w.heap.size, 0, none⟩ = W.cell? ⟨w.heap.size, 0, none⟩ from rfl, cell_of_row _ _ _ _ _ _ hWn]; rfl)
  have b2 := fun j => (show (W.drewN j).cell? ⟨w.heap.size, 2, none⟩ = some (.int .u8 fn) by rw [show (W.drewN j).cell? ⟨w.heap.size, 2, none⟩ = W.cell? ⟨w.heap.size, 2, none⟩ from rfl, cell_of_row _ _ _ _ _ _ hWn]; rfl)
  have HW := Lib.hid hW
  clear h hv hv1 hT hW hWn
  unfold itW
  go_enter Tryz.func102, Tryz.ntmps102
  go_wp2
  rw [← HW.out]
  have WB2 := HS.out.below hWb
  clear c0 c1 c2 f1 f2
  obtain ⟨c0, c1, c2, f1, f2⟩ := WB2.cells
  have r0 := fun j => (show (W.drewN j).cell? ⟨R, 0, none⟩ = some (.map (some M)) from c0)
  have l1 := fun j => hlk (W.drewN j) WB2.tab
  have g1 := fun w => fieldV1 (bs T.1) (bs T.2) w
  have g2 := fun w => fieldV2 (bs T.1) (bs T.2) w
  have HB := Lib.hid hWb
  clear WB2 hlk c0 c1 c2 f1 f2 hWb hd
  go_quiet (fail)
  go_wp2
  go_quiet (fail)
  go_wp2_with fail
  refine (markOf_any 3 _).mono ?_
  rintro e w2 ⟨rfl, rfl⟩
  have hm : bs (markW 3) = ⟨#[]⟩ := rfl
  rw [hm]
  clear r0 l1 g1 g2
  go_wp2_with fail
  refine (spend_any _ R M v d _ (HS.out.below (by first | exact HB.out | exact below_drewN HB.out HB.out.size)) HD.out (by decide)).mono ?_
  rintro e w3 ⟨rfl, rfl⟩
  go_wp2
  refine bodyPost_ret (v := .tuple #[.string (bs (verbW fn false ++ markW 3)), .bool (decide (1 + ((markW 3).length : Int) ≤ d))]) (R := SgYes w R M v d 3 fn) (by rw [HV.out, ← cat_bs, hm]; simp [results, Tryz.results102, go_sem, markW]) rfl ?_
  exact SgYes.of HS.out (by first | exact HB.out | exact below_drewN HB.out HB.out.size)
set_option maxHeartbeats 3200000 in
theorem sign_3no (w : World) (R M : Nat) (v : Value) (d : Int) (h : WB w R M v d) (hd : 0 ≤ d ∧ d ≤ 1000000) (pl fn : Int) (nm : List UInt8) (A : Option Addr) (n c : Nat) (hv : verbW fn false = []) :
    Calls Tryz.prog 102 #[.pointer (some ⟨R, 0, none⟩), itW 3 pl fn nm A n c] w (SgNo w R) := by
  obtain ⟨c0, c1, c2, f1, f2⟩ := h.cells
  have hlt := h.blt
  have hML := h.lt
  have HS := Lib.hid h
  have HD := Lib.hid hd
  obtain ⟨T, hT⟩ : ∃ T, T = lookT tabE fn := ⟨_, rfl⟩
  have hv1 : verbW fn false = T.1 := by rw [lookT_verb, hT]; rfl
  rw [hv1] at hv
  have HV := Lib.hid hv1
  have hbe : ((bs T.1).toList == []) = true := by rw [cmpB]; exact decide_eq_true hv
  have hlk : ∀ W : World, W.heap[M]? = some (tabM 26) → (Instr.lookup 71 (.map (some M)) (.int .u8 fn) false).run Tryz.prog W = .ok (.agg #[.string (bs T.1), .string (bs T.2)]) W := fun W hW => by rw [hT]; exact look_verb W M fn hW
  obtain ⟨W, hW⟩ : ∃ W, W = w.alloc (.cells #[.int .i64 3, .int .i64 pl, .int .u8 fn, .string (bs nm), .slice A n c] 37) := ⟨_, rfl⟩
  have hWb : Below w.heap.size w W := by rw [hW]; exact (Below.refl _ _).alloc (Nat.le_refl _) _
  have hWn : W.heap[w.heap.size]? = some (.cells #[.int .i64 3, .int .i64 pl, .int .u8 fn, .string (bs nm), .slice A n c] 37 (0, 0)) := by rw [hW]; exact heap_alloc_new w _
  have b0 := fun j => (show (W.drewN j).cell? ⟨w.heap.size, 0, none⟩ = some (.int .i64 3) by rw [show (W.drewN j).cell? ⟨w.heap.size, 0, none⟩ = W.cell? ⟨w.heap.size, 0, none⟩ from rfl, cell_of_row _ _ _ _ _ _ hWn]; rfl)
  have b2 := fun j => (show (W.drewN j).cell? ⟨w.heap.size, 2, none⟩ = some (.int .u8 fn) by rw [show (W.drewN j).cell? ⟨w.heap.size, 2, none⟩ = W.cell? ⟨w.heap.size, 2, none⟩ from rfl, cell_of_row _ _ _ _ _ _ hWn]; rfl)
  have HW := Lib.hid hW
  clear h hv hv1 hT hW hWn
  unfold itW
  go_enter Tryz.func102, Tryz.ntmps102
  go_wp2
  rw [← HW.out]
  have WB2 := HS.out.below hWb
  clear c0 c1 c2 f1 f2
  obtain ⟨c0, c1, c2, f1, f2⟩ := WB2.cells
  have r0 := fun j => (show (W.drewN j).cell? ⟨R, 0, none⟩ = some (.map (some M)) from c0)
  have l1 := fun j => hlk (W.drewN j) WB2.tab
  have g1 := fun w => fieldV1 (bs T.1) (bs T.2) w
  have g2 := fun w => fieldV2 (bs T.1) (bs T.2) w
  have HB := Lib.hid hWb
  clear WB2 hlk c0 c1 c2 f1 f2 hWb hd
  go_quiet (fail)
  go_wp2
  go_quiet (fail)
  go_wp2_with fail
  refine (markOf_any 3 _).mono ?_
  rintro e w2 ⟨rfl, rfl⟩
  have hm : bs (markW 3) = ⟨#[]⟩ := rfl
  rw [hm]
  clear r0 l1 g1 g2
  go_wp2
  refine bodyPost_ret (v := .tuple #[.string ⟨#[]⟩, .bool false]) (R := SgNo w R) (by simp [results, Tryz.results102, go_sem]) rfl ?_
  exact ⟨rfl, (show Below w.heap.size w _ by first | exact HB.out | exact below_drewN HB.out HB.out.size).mono (Nat.le_of_lt hlt)⟩
set_option maxHeartbeats 3200000 in
theorem sign_4yes (w : World) (R M : Nat) (v : Value) (d : Int) (h : WB w R M v d) (hd : 0 ≤ d ∧ d ≤ 1000000) (pl fn : Int) (nm : List UInt8) (A : Option Addr) (n c : Nat) (hv : verbW fn true ≠ []) :
    Calls Tryz.prog 102 #[.pointer (some ⟨R, 0, none⟩), itW 4 pl fn nm A n c] w (SgYes w R M v d 4 fn) := by
  obtain ⟨c0, c1, c2, f1, f2⟩ := h.cells
  have hlt := h.blt
  have hML := h.lt
  have HS := Lib.hid h
  have HD := Lib.hid hd
  obtain ⟨T, hT⟩ : ∃ T, T = lookT tabE fn := ⟨_, rfl⟩
  have hv1 : verbW fn true = T.2 := by rw [lookT_verb, hT]; rfl
  rw [hv1] at hv
  have HV := Lib.hid hv1
  have hbe : ((bs T.2).toList == []) = false := by rw [cmpB]; exact decide_eq_false hv
  have hz : (bs T.2).size ≤ 5 := by rw [bs_size, hT]; exact (lookT_len fn).2
  have hlk : ∀ W : World, W.heap[M]? = some (tabM 26) → (Instr.lookup 71 (.map (some M)) (.int .u8 fn) false).run Tryz.prog W = .ok (.agg #[.string (bs T.1), .string (bs T.2)]) W := fun W hW => by rw [hT]; exact look_verb W M fn hW
  obtain ⟨W, hW⟩ : ∃ W, W = w.alloc (.cells #[.int .i64 4, .int .i64 pl, .int .u8 fn, .string (bs nm), .slice A n c] 37) := ⟨_, rfl⟩
  have hWb : Below w.heap.size w W := by rw [hW]; exact (Below.refl _ _).alloc (Nat.le_refl _) _
  have hWn : W.heap[w.heap.size]? = some (.cells #[.int .i64 4, .int .i64 pl, .int .u8 fn, .string (bs nm), .slice A n c] 37 (0, 0)) := by rw [hW]; exact heap_alloc_new w _
  have b0 := fun j => (show (W.drewN j).cell? ⟨w.heap.size, 0, none⟩ = some (.int .i64 4) by rw [show (W.drewN j).cell? ⟨w.heap.size, 0, none⟩ = W.cell? ⟨w.heap.size, 0, none⟩ from rfl, cell_of_row _ _ _ _ _ _ hWn]; rfl)
  have b2 := fun j => (show (W.drewN j).cell? ⟨w.heap.size, 2, none⟩ = some (.int .u8 fn) by rw [show (W.drewN j).cell? ⟨w.heap.size, 2, none⟩ = W.cell? ⟨w.heap.size, 2, none⟩ from rfl, cell_of_row _ _ _ _ _ _ hWn]; rfl)
  have HW := Lib.hid hW
  clear h hv hv1 hT hW hWn
  unfold itW
  go_enter Tryz.func102, Tryz.ntmps102
  go_wp2
  rw [← HW.out]
  have WB2 := HS.out.below hWb
  clear c0 c1 c2 f1 f2
  obtain ⟨c0, c1, c2, f1, f2⟩ := WB2.cells
  have r0 := fun j => (show (W.drewN j).cell? ⟨R, 0, none⟩ = some (.map (some M)) from c0)
  have l1 := fun j => hlk (W.drewN j) WB2.tab
  have g1 := fun w => fieldV1 (bs T.1) (bs T.2) w
  have g2 := fun w => fieldV2 (bs T.1) (bs T.2) w
  have HB := Lib.hid hWb
  clear WB2 hlk c0 c1 c2 f1 f2 hWb hd
  go_quiet (fail)
  go_wp2_with fail
  refine (markOf_any 4 _).mono ?_
  rintro e w2 ⟨rfl, rfl⟩
  have hm : bs (markW 4) = ⟨#[]⟩ := rfl
  rw [hm]
  clear r0 l1 g1 g2
  go_wp2_with fail
  refine (spend_any _ R M v d _ (HS.out.below (by first | exact HB.out | exact below_drewN HB.out HB.out.size)) HD.out (by decide)).mono ?_
  rintro e w3 ⟨rfl, rfl⟩
  go_wp2
  refine bodyPost_ret (v := .tuple #[.string (bs (verbW fn true ++ markW 4)), .bool (decide (1 + ((markW 4).length : Int) ≤ d))]) (R := SgYes w R M v d 4 fn) (by rw [HV.out, ← cat_bs, hm]; simp [results, Tryz.results102, go_sem, markW]) rfl ?_
  exact SgYes.of HS.out (by first | exact HB.out | exact below_drewN HB.out HB.out.size)
set_option maxHeartbeats 3200000 in
theorem sign_4no (w : World) (R M : Nat) (v : Value) (d : Int) (h : WB w R M v d) (hd : 0 ≤ d ∧ d ≤ 1000000) (pl fn : Int) (nm : List UInt8) (A : Option Addr) (n c : Nat) (hv : verbW fn true = []) :
    Calls Tryz.prog 102 #[.pointer (some ⟨R, 0, none⟩), itW 4 pl fn nm A n c] w (SgNo w R) := by
  obtain ⟨c0, c1, c2, f1, f2⟩ := h.cells
  have hlt := h.blt
  have hML := h.lt
  have HS := Lib.hid h
  have HD := Lib.hid hd
  obtain ⟨T, hT⟩ : ∃ T, T = lookT tabE fn := ⟨_, rfl⟩
  have hv1 : verbW fn true = T.2 := by rw [lookT_verb, hT]; rfl
  rw [hv1] at hv
  have HV := Lib.hid hv1
  have hbe : ((bs T.2).toList == []) = true := by rw [cmpB]; exact decide_eq_true hv
  have hlk : ∀ W : World, W.heap[M]? = some (tabM 26) → (Instr.lookup 71 (.map (some M)) (.int .u8 fn) false).run Tryz.prog W = .ok (.agg #[.string (bs T.1), .string (bs T.2)]) W := fun W hW => by rw [hT]; exact look_verb W M fn hW
  obtain ⟨W, hW⟩ : ∃ W, W = w.alloc (.cells #[.int .i64 4, .int .i64 pl, .int .u8 fn, .string (bs nm), .slice A n c] 37) := ⟨_, rfl⟩
  have hWb : Below w.heap.size w W := by rw [hW]; exact (Below.refl _ _).alloc (Nat.le_refl _) _
  have hWn : W.heap[w.heap.size]? = some (.cells #[.int .i64 4, .int .i64 pl, .int .u8 fn, .string (bs nm), .slice A n c] 37 (0, 0)) := by rw [hW]; exact heap_alloc_new w _
  have b0 := fun j => (show (W.drewN j).cell? ⟨w.heap.size, 0, none⟩ = some (.int .i64 4) by rw [show (W.drewN j).cell? ⟨w.heap.size, 0, none⟩ = W.cell? ⟨w.heap.size, 0, none⟩ from rfl, cell_of_row _ _ _ _ _ _ hWn]; rfl)
  have b2 := fun j => (show (W.drewN j).cell? ⟨w.heap.size, 2, none⟩ = some (.int .u8 fn) by rw [show (W.drewN j).cell? ⟨w.heap.size, 2, none⟩ = W.cell? ⟨w.heap.size, 2, none⟩ from rfl, cell_of_row _ _ _ _ _ _ hWn]; rfl)
  have HW := Lib.hid hW
  clear h hv hv1 hT hW hWn
  unfold itW
  go_enter Tryz.func102, Tryz.ntmps102
  go_wp2
  rw [← HW.out]
  have WB2 := HS.out.below hWb
  clear c0 c1 c2 f1 f2
  obtain ⟨c0, c1, c2, f1, f2⟩ := WB2.cells
  have r0 := fun j => (show (W.drewN j).cell? ⟨R, 0, none⟩ = some (.map (some M)) from c0)
  have l1 := fun j => hlk (W.drewN j) WB2.tab
  have g1 := fun w => fieldV1 (bs T.1) (bs T.2) w
  have g2 := fun w => fieldV2 (bs T.1) (bs T.2) w
  have HB := Lib.hid hWb
  clear WB2 hlk c0 c1 c2 f1 f2 hWb hd
  go_quiet (fail)
  go_wp2_with fail
  refine (markOf_any 4 _).mono ?_
  rintro e w2 ⟨rfl, rfl⟩
  have hm : bs (markW 4) = ⟨#[]⟩ := rfl
  rw [hm]
  clear r0 l1 g1 g2
  go_wp2
  refine bodyPost_ret (v := .tuple #[.string ⟨#[]⟩, .bool false]) (R := SgNo w R) (by simp [results, Tryz.results102, go_sem]) rfl ?_
  exact ⟨rfl, (show Below w.heap.size w _ by first | exact HB.out | exact below_drewN HB.out HB.out.size).mono (Nat.le_of_lt hlt)⟩
set_option maxHeartbeats 3200000 in
theorem sign_5yes (w : World) (R M : Nat) (v : Value) (d : Int) (h : WB w R M v d) (hd : 0 ≤ d ∧ d ≤ 1000000) (pl fn : Int) (nm : List UInt8) (A : Option Addr) (n c : Nat) (hv : verbW fn true ≠ []) (hf : fn ≤ 17) :
    Calls Tryz.prog 102 #[.pointer (some ⟨R, 0, none⟩), itW 5 pl fn nm A n c] w (SgYes w R M v d 5 fn) := by
  obtain ⟨c0, c1, c2, f1, f2⟩ := h.cells
  have hlt := h.blt
  have hML := h.lt
  have HS := Lib.hid h
  have HD := Lib.hid hd
  obtain ⟨T, hT⟩ : ∃ T, T = lookT tabE fn := ⟨_, rfl⟩
  have hv1 : verbW fn true = T.2 := by rw [lookT_verb, hT]; rfl
  rw [hv1] at hv
  have HV := Lib.hid hv1
  have hbe : ((bs T.2).toList == []) = false := by rw [cmpB]; exact decide_eq_false hv
  have hz : (bs T.2).size ≤ 5 := by rw [bs_size, hT]; exact (lookT_len fn).2
  have hf1 : decide (17 < fn) = false := decide_eq_false (by omega)
  have hlk : ∀ W : World, W.heap[M]? = some (tabM 26) → (Instr.lookup 71 (.map (some M)) (.int .u8 fn) false).run Tryz.prog W = .ok (.agg #[.string (bs T.1), .string (bs T.2)]) W := fun W hW => by rw [hT]; exact look_verb W M fn hW
  obtain ⟨W, hW⟩ : ∃ W, W = w.alloc (.cells #[.int .i64 5, .int .i64 pl, .int .u8 fn, .string (bs nm), .slice A n c] 37) := ⟨_, rfl⟩
  have hWb : Below w.heap.size w W := by rw [hW]; exact (Below.refl _ _).alloc (Nat.le_refl _) _
  have hWn : W.heap[w.heap.size]? = some (.cells #[.int .i64 5, .int .i64 pl, .int .u8 fn, .string (bs nm), .slice A n c] 37 (0, 0)) := by rw [hW]; exact heap_alloc_new w _
  have b0 := fun j => (show (W.drewN j).cell? ⟨w.heap.size, 0, none⟩ = some (.int .i64 5) by rw [show (W.drewN j).cell? ⟨w.heap.size, 0, none⟩ = W.cell? ⟨w.heap.size, 0, none⟩ from rfl, cell_of_row _ _ _ _ _ _ hWn]; rfl)
  have b2 := fun j => (show (W.drewN j).cell? ⟨w.heap.size, 2, none⟩ = some (.int .u8 fn) by rw [show (W.drewN j).cell? ⟨w.heap.size, 2, none⟩ = W.cell? ⟨w.heap.size, 2, none⟩ from rfl, cell_of_row _ _ _ _ _ _ hWn]; rfl)
  have HW := Lib.hid hW
  clear h hv hv1 hT hW hWn hf
  unfold itW
  go_enter Tryz.func102, Tryz.ntmps102
  go_wp2
  rw [← HW.out]
  have WB2 := HS.out.below hWb
  clear c0 c1 c2 f1 f2
  obtain ⟨c0, c1, c2, f1, f2⟩ := WB2.cells
  have r0 := fun j => (show (W.drewN j).cell? ⟨R, 0, none⟩ = some (.map (some M)) from c0)
  have l1 := fun j => hlk (W.drewN j) WB2.tab
  have g1 := fun w => fieldV1 (bs T.1) (bs T.2) w
  have g2 := fun w => fieldV2 (bs T.1) (bs T.2) w
  have HB := Lib.hid hWb
  clear WB2 hlk c0 c1 c2 f1 f2 hWb hd
  go_quiet (fail)
  go_wp2_with fail
  refine (markOf_any 5 _).mono ?_
  rintro e w2 ⟨rfl, rfl⟩
  have hm : bs (markW 5) = ⟨#[47]⟩ := rfl
  rw [hm]
  clear r0 l1 g1 g2
  go_wp2_with fail
  refine (spend_any _ R M v d _ (HS.out.below (by first | exact HB.out | exact below_drewN HB.out HB.out.size)) HD.out (by decide)).mono ?_
  rintro e w3 ⟨rfl, rfl⟩
  go_wp2
  refine bodyPost_ret (v := .tuple #[.string (bs (verbW fn true ++ markW 5)), .bool (decide (1 + ((markW 5).length : Int) ≤ d))]) (R := SgYes w R M v d 5 fn) (by rw [HV.out, ← cat_bs, hm]; simp [results, Tryz.results102, go_sem, markW]) rfl ?_
  exact SgYes.of HS.out (by first | exact HB.out | exact below_drewN HB.out HB.out.size)
set_option maxHeartbeats 3200000 in
theorem sign_5no (w : World) (R M : Nat) (v : Value) (d : Int) (h : WB w R M v d) (hd : 0 ≤ d ∧ d ≤ 1000000) (pl fn : Int) (nm : List UInt8) (A : Option Addr) (n c : Nat) (hv : verbW fn true = []) :
    Calls Tryz.prog 102 #[.pointer (some ⟨R, 0, none⟩), itW 5 pl fn nm A n c] w (SgNo w R) := by
  obtain ⟨c0, c1, c2, f1, f2⟩ := h.cells
  have hlt := h.blt
  have hML := h.lt
  have HS := Lib.hid h
  have HD := Lib.hid hd
  obtain ⟨T, hT⟩ : ∃ T, T = lookT tabE fn := ⟨_, rfl⟩
  have hv1 : verbW fn true = T.2 := by rw [lookT_verb, hT]; rfl
  rw [hv1] at hv
  have HV := Lib.hid hv1
  have hbe : ((bs T.2).toList == []) = true := by rw [cmpB]; exact decide_eq_true hv
  have hlk : ∀ W : World, W.heap[M]? = some (tabM 26) → (Instr.lookup 71 (.map (some M)) (.int .u8 fn) false).run Tryz.prog W = .ok (.agg #[.string (bs T.1), .string (bs T.2)]) W := fun W hW => by rw [hT]; exact look_verb W M fn hW
  obtain ⟨W, hW⟩ : ∃ W, W = w.alloc (.cells #[.int .i64 5, .int .i64 pl, .int .u8 fn, .string (bs nm), .slice A n c] 37) := ⟨_, rfl⟩
  have hWb : Below w.heap.size w W := by rw [hW]; exact (Below.refl _ _).alloc (Nat.le_refl _) _
  have hWn : W.heap[w.heap.size]? = some (.cells #[.int .i64 5, .int .i64 pl, .int .u8 fn, .string (bs nm), .slice A n c] 37 (0, 0)) := by rw [hW]; exact heap_alloc_new w _
  have b0 := fun j => (show (W.drewN j).cell? ⟨w.heap.size, 0, none⟩ = some (.int .i64 5) by rw [show (W.drewN j).cell? ⟨w.heap.size, 0, none⟩ = W.cell? ⟨w.heap.size, 0, none⟩ from rfl, cell_of_row _ _ _ _ _ _ hWn]; rfl)
  have b2 := fun j => (show (W.drewN j).cell? ⟨w.heap.size, 2, none⟩ = some (.int .u8 fn) by rw [show (W.drewN j).cell? ⟨w.heap.size, 2, none⟩ = W.cell? ⟨w.heap.size, 2, none⟩ from rfl, cell_of_row _ _ _ _ _ _ hWn]; rfl)
  have HW := Lib.hid hW
  clear h hv hv1 hT hW hWn
  unfold itW
  go_enter Tryz.func102, Tryz.ntmps102
  go_wp2
  rw [← HW.out]
  have WB2 := HS.out.below hWb
  clear c0 c1 c2 f1 f2
  obtain ⟨c0, c1, c2, f1, f2⟩ := WB2.cells
  have r0 := fun j => (show (W.drewN j).cell? ⟨R, 0, none⟩ = some (.map (some M)) from c0)
  have l1 := fun j => hlk (W.drewN j) WB2.tab
  have g1 := fun w => fieldV1 (bs T.1) (bs T.2) w
  have g2 := fun w => fieldV2 (bs T.1) (bs T.2) w
  have HB := Lib.hid hWb
  clear WB2 hlk c0 c1 c2 f1 f2 hWb hd
  go_quiet (fail)
  go_wp2_with fail
  refine (markOf_any 5 _).mono ?_
  rintro e w2 ⟨rfl, rfl⟩
  have hm : bs (markW 5) = ⟨#[47]⟩ := rfl
  rw [hm]
  clear r0 l1 g1 g2
  go_wp2
  refine bodyPost_ret (v := .tuple #[.string ⟨#[]⟩, .bool false]) (R := SgNo w R) (by simp [results, Tryz.results102, go_sem]) rfl ?_
  exact ⟨rfl, (show Below w.heap.size w _ by first | exact HB.out | exact below_drewN HB.out HB.out.size).mono (Nat.le_of_lt hlt)⟩
set_option maxHeartbeats 3200000 in
theorem sign_5far (w : World) (R M : Nat) (v : Value) (d : Int) (h : WB w R M v d) (hd : 0 ≤ d ∧ d ≤ 1000000) (pl fn : Int) (nm : List UInt8) (A : Option Addr) (n c : Nat) (hv : verbW fn true ≠ []) (hf : ¬ fn ≤ 17) :
    Calls Tryz.prog 102 #[.pointer (some ⟨R, 0, none⟩), itW 5 pl fn nm A n c] w (SgNo w R) := by
  obtain ⟨c0, c1, c2, f1, f2⟩ := h.cells
  have hlt := h.blt
  have hML := h.lt
  have HS := Lib.hid h
  have HD := Lib.hid hd
  obtain ⟨T, hT⟩ : ∃ T, T = lookT tabE fn := ⟨_, rfl⟩
  have hv1 : verbW fn true = T.2 := by rw [lookT_verb, hT]; rfl
  rw [hv1] at hv
  have HV := Lib.hid hv1
  have hbe : ((bs T.2).toList == []) = false := by rw [cmpB]; exact decide_eq_false hv
  have hz : (bs T.2).size ≤ 5 := by rw [bs_size, hT]; exact (lookT_len fn).2
  have hf1 : decide (17 < fn) = true := decide_eq_true (by omega)
  have hlk : ∀ W : World, W.heap[M]? = some (tabM 26) → (Instr.lookup 71 (.map (some M)) (.int .u8 fn) false).run Tryz.prog W = .ok (.agg #[.string (bs T.1), .string (bs T.2)]) W := fun W hW => by rw [hT]; exact look_verb W M fn hW
  obtain ⟨W, hW⟩ : ∃ W, W = w.alloc (.cells #[.int .i64 5, .int .i64 pl, .int .u8 fn, .string (bs nm), .slice A n c] 37) := ⟨_, rfl⟩
  have hWb : Below w.heap.size w W := by rw [hW]; exact (Below.refl _ _).alloc (Nat.le_refl _) _
  have hWn : W.heap[w.heap.size]? = some (.cells #[.int .i64 5, .int .i64 pl, .int .u8 fn, .string (bs nm), .slice A n c] 37 (0, 0)) := by rw [hW]; exact heap_alloc_new w _
  have b0 := fun j => (show (W.drewN j).cell? ⟨w.heap.size, 0, none⟩ = some (.int .i64 5) by rw [show (W.drewN j).cell? ⟨w.heap.size, 0, none⟩ = W.cell? ⟨w.heap.size, 0, none⟩ from rfl, cell_of_row _ _ _ _ _ _ hWn]; rfl)
  have b2 := fun j => (show (W.drewN j).cell? ⟨w.heap.size, 2, none⟩ = some (.int .u8 fn) by rw [show (W.drewN j).cell? ⟨w.heap.size, 2, none⟩ = W.cell? ⟨w.heap.size, 2, none⟩ from rfl, cell_of_row _ _ _ _ _ _ hWn]; rfl)
  have HW := Lib.hid hW
  clear h hv hv1 hT hW hWn hf
  unfold itW
  go_enter Tryz.func102, Tryz.ntmps102
  go_wp2
  rw [← HW.out]
  have WB2 := HS.out.below hWb
  clear c0 c1 c2 f1 f2
  obtain ⟨c0, c1, c2, f1, f2⟩ := WB2.cells
  have r0 := fun j => (show (W.drewN j).cell? ⟨R, 0, none⟩ = some (.map (some M)) from c0)
  have l1 := fun j => hlk (W.drewN j) WB2.tab
  have g1 := fun w => fieldV1 (bs T.1) (bs T.2) w
  have g2 := fun w => fieldV2 (bs T.1) (bs T.2) w
  have HB := Lib.hid hWb
  clear WB2 hlk c0 c1 c2 f1 f2 hWb hd
  go_quiet (fail)
  go_wp2_with fail
  refine (markOf_any 5 _).mono ?_
  rintro e w2 ⟨rfl, rfl⟩
  have hm : bs (markW 5) = ⟨#[47]⟩ := rfl
  rw [hm]
  clear r0 l1 g1 g2
  go_wp2
  refine bodyPost_ret (v := .tuple #[.string ⟨#[]⟩, .bool false]) (R := SgNo w R) (by simp [results, Tryz.results102, go_sem]) rfl ?_
  exact ⟨rfl, (show Below w.heap.size w _ by first | exact HB.out | exact below_drewN HB.out HB.out.size).mono (Nat.le_of_lt hlt)⟩
set_option maxHeartbeats 3200000 in
theorem sign_6yes (w : World) (R M : Nat) (v : Value) (d : Int) (h : WB w R M v d) (hd : 0 ≤ d ∧ d ≤ 1000000) (pl fn : Int) (nm : List UInt8) (A : Option Addr) (n c : Nat) (hv : verbW fn true ≠ []) (hf : fn ≤ 17) :
    Calls Tryz.prog 102 #[.pointer (some ⟨R, 0, none⟩), itW 6 pl fn nm A n c] w (SgYes w R M v d 6 fn) := by
  obtain ⟨c0, c1, c2, f1, f2⟩ := h.cells
  have hlt := h.blt
  have hML := h.lt
  have HS := Lib.hid h
  have HD := Lib.hid hd
  obtain ⟨T, hT⟩ : ∃ T, T = lookT tabE fn := ⟨_, rfl⟩
  have hv1 : verbW fn true = T.2 := by rw [lookT_verb, hT]; rfl
  rw [hv1] at hv
  have HV := Lib.hid hv1
  have hbe : ((bs T.2).toList == []) = false := by rw [cmpB]; exact decide_eq_false hv
  have hz : (bs T.2).size ≤ 5 := by rw [bs_size, hT]; exact (lookT_len fn).2
  have hf1 : decide (17 < fn) = false := decide_eq_false (by omega)
  have hlk : ∀ W : World, W.heap[M]? = some (tabM 26) → (Instr.lookup 71 (.map (some M)) (.int .u8 fn) false).run Tryz.prog W = .ok (.agg #[.string (bs T.1), .string (bs T.2)]) W := fun W hW => by rw [hT]; exact look_verb W M fn hW
  obtain ⟨W, hW⟩ : ∃ W, W = w.alloc (.cells #[.int .i64 6, .int .i64 pl, .int .u8 fn, .string (bs nm), .slice A n c] 37) := ⟨_, rfl⟩
  have hWb : Below w.heap.size w W := by rw [hW]; exact (Below.refl _ _).alloc (Nat.le_refl _) _
  have hWn : W.heap[w.heap.size]? = some (.cells #[.int .i64 6, .int .i64 pl, .int .u8 fn, .string (bs nm), .slice A n c] 37 (0, 0)) := by rw [hW]; exact heap_alloc_new w _
  have b0 := fun j => (show (W.drewN j).cell? ⟨w.heap.size, 0, none⟩ = some (.int .i64 6) by rw [show (W.drewN j).cell? ⟨w.heap.size, 0, none⟩ = W.cell? ⟨w.heap.size, 0, none⟩ from rfl, cell_of_row _ _ _ _ _ _ hWn]; rfl)
  have b2 := fun j => (show (W.drewN j).cell? ⟨w.heap.size, 2, none⟩ = some (.int .u8 fn) by rw [show (W.drewN j).cell? ⟨w.heap.size, 2, none⟩ = W.cell? ⟨w.heap.size, 2, none⟩ from rfl, cell_of_row _ _ _ _ _ _ hWn]; rfl)
  have HW := Lib.hid hW
  clear h hv hv1 hT hW hWn hf
  unfold itW
  go_enter Tryz.func102, Tryz.ntmps102
  go_wp2
  rw [← HW.out]
  have WB2 := HS.out.below hWb
  clear c0 c1 c2 f1 f2
  obtain ⟨c0, c1, c2, f1, f2⟩ := WB2.cells
  have r0 := fun j => (show (W.drewN j).cell? ⟨R, 0, none⟩ = some (.map (some M)) from c0)
  have l1 := fun j => hlk (W.drewN j) WB2.tab
  have g1 := fun w => fieldV1 (bs T.1) (bs T.2) w
  have g2 := fun w => fieldV2 (bs T.1) (bs T.2) w
  have HB := Lib.hid hWb
  clear WB2 hlk c0 c1 c2 f1 f2 hWb hd
  go_quiet (fail)
  go_wp2_with fail
  refine (markOf_any 6 _).mono ?_
  rintro e w2 ⟨rfl, rfl⟩
  have hm : bs (markW 6) = ⟨#[92]⟩ := rfl
  rw [hm]
  clear r0 l1 g1 g2
  go_wp2_with fail
  refine (spend_any _ R M v d _ (HS.out.below (by first | exact HB.out | exact below_drewN HB.out HB.out.size)) HD.out (by decide)).mono ?_
  rintro e w3 ⟨rfl, rfl⟩
  go_wp2
  refine bodyPost_ret (v := .tuple #[.string (bs (verbW fn true ++ markW 6)), .bool (decide (1 + ((markW 6).length : Int) ≤ d))]) (R := SgYes w R M v d 6 fn) (by rw [HV.out, ← cat_bs, hm]; simp [results, Tryz.results102, go_sem, markW]) rfl ?_
  exact SgYes.of HS.out (by first | exact HB.out | exact below_drewN HB.out HB.out.size)
set_option maxHeartbeats 3200000 in
theorem sign_6no (w : World) (R M : Nat) (v : Value) (d : Int) (h : WB w R M v d) (hd : 0 ≤ d ∧ d ≤ 1000000) (pl fn : Int) (nm : List UInt8) (A : Option Addr) (n c : Nat) (hv : verbW fn true = []) :
    Calls Tryz.prog 102 #[.pointer (some ⟨R, 0, none⟩), itW 6 pl fn nm A n c] w (SgNo w R) := by
  obtain ⟨c0, c1, c2, f1, f2⟩ := h.cells
  have hlt := h.blt
  have hML := h.lt
  have HS := Lib.hid h
  have HD := Lib.hid hd
  obtain ⟨T, hT⟩ : ∃ T, T = lookT tabE fn := ⟨_, rfl⟩
  have hv1 : verbW fn true = T.2 := by rw [lookT_verb, hT]; rfl
  rw [hv1] at hv
  have HV := Lib.hid hv1
  have hbe : ((bs T.2).toList == []) = true := by rw [cmpB]; exact decide_eq_true hv
  have hlk : ∀ W : World, W.heap[M]? = some (tabM 26) → (Instr.lookup 71 (.map (some M)) (.int .u8 fn) false).run Tryz.prog W = .ok (.agg #[.string (bs T.1), .string (bs T.2)]) W := fun W hW => by rw [hT]; exact look_verb W M fn hW
  obtain ⟨W, hW⟩ : ∃ W, W = w.alloc (.cells #[.int .i64 6, .int .i64 pl, .int .u8 fn, .string (bs nm), .slice A n c] 37) := ⟨_, rfl⟩
  have hWb : Below w.heap.size w W := by rw [hW]; exact (Below.refl _ _).alloc (Nat.le_refl _) _
  have hWn : W.heap[w.heap.size]? = some (.cells #[.int .i64 6, .int .i64 pl, .int .u8 fn, .string (bs nm), .slice A n c] 37 (0, 0)) := by rw [hW]; exact heap_alloc_new w _
  have b0 := fun j => (show (W.drewN j).cell? ⟨w.heap.size, 0, none⟩ = some (.int .i64 6) by rw [show (W.drewN j).cell? ⟨w.heap.size, 0, none⟩ = W.cell? ⟨w.heap.size, 0, none⟩ from rfl, cell_of_row _ _ _ _ _ _ hWn]; rfl)
  have b2 := fun j => (show (W.drewN j).cell? ⟨w.heap.size, 2, none⟩ = some (.int .u8 fn) by rw [show (W.drewN j).cell? ⟨w.heap.size, 2, none⟩ = W.cell? ⟨w.heap.size, 2, none⟩ from rfl, cell_of_row _ _ _ _ _ _ hWn]; rfl)
  have HW := Lib.hid hW
  clear h hv hv1 hT hW hWn
  unfold itW
  go_enter Tryz.func102, Tryz.ntmps102
  go_wp2
  rw [← HW.out]
  have WB2 := HS.out.below hWb
  clear c0 c1 c2 f1 f2
  obtain ⟨c0, c1, c2, f1, f2⟩ := WB2.cells
  have r0 := fun j => (show (W.drewN j).cell? ⟨R, 0, none⟩ = some (.map (some M)) from c0)
  have l1 := fun j => hlk (W.drewN j) WB2.tab
  have g1 := fun w => fieldV1 (bs T.1) (bs T.2) w
  have g2 := fun w => fieldV2 (bs T.1) (bs T.2) w
  have HB := Lib.hid hWb
  clear WB2 hlk c0 c1 c2 f1 f2 hWb hd
  go_quiet (fail)
  go_wp2_with fail
  refine (markOf_any 6 _).mono ?_
  rintro e w2 ⟨rfl, rfl⟩
  have hm : bs (markW 6) = ⟨#[92]⟩ := rfl
  rw [hm]
  clear r0 l1 g1 g2
  go_wp2
  refine bodyPost_ret (v := .tuple #[.string ⟨#[]⟩, .bool false]) (R := SgNo w R) (by simp [results, Tryz.results102, go_sem]) rfl ?_
  exact ⟨rfl, (show Below w.heap.size w _ by first | exact HB.out | exact below_drewN HB.out HB.out.size).mono (Nat.le_of_lt hlt)⟩
set_option maxHeartbeats 3200000 in
theorem sign_6far (w : World) (R M : Nat) (v : Value) (d : Int) (h : WB w R M v d) (hd : 0 ≤ d ∧ d ≤ 1000000) (pl fn : Int) (nm : List UInt8) (A : Option Addr) (n c : Nat) (hv : verbW fn true ≠ []) (hf : ¬ fn ≤ 17) :
    Calls Tryz.prog 102 #[.pointer (some ⟨R, 0, none⟩), itW 6 pl fn nm A n c] w (SgNo w R) := by
  obtain ⟨c0, c1, c2, f1, f2⟩ := h.cells
  have hlt := h.blt
  have hML := h.lt
  have HS := Lib.hid h
  have HD := Lib.hid hd
  obtain ⟨T, hT⟩ : ∃ T, T = lookT tabE fn := ⟨_, rfl⟩
  have hv1 : verbW fn true = T.2 := by rw [lookT_verb, hT]; rfl
  rw [hv1] at hv
  have HV := Lib.hid hv1
  have hbe : ((bs T.2).toList == []) = false := by rw [cmpB]; exact decide_eq_false hv
  have hz : (bs T.2).size ≤ 5 := by rw [bs_size, hT]; exact (lookT_len fn).2
  have hf1 : decide (17 < fn) = true := decide_eq_true (by omega)
  have hlk : ∀ W : World, W.heap[M]? = some (tabM 26) → (Instr.lookup 71 (.map (some M)) (.int .u8 fn) false).run Tryz.prog W = .ok (.agg #[.string (bs T.1), .string (bs T.2)]) W := fun W hW => by rw [hT]; exact look_verb W M fn hW
  obtain ⟨W, hW⟩ : ∃ W, W = w.alloc (.cells #[.int .i64 6, .int .i64 pl, .int .u8 fn, .string (bs nm), .slice A n c] 37) := ⟨_, rfl⟩
  have hWb : Below w.heap.size w W := by rw [hW]; exact (Below.refl _ _).alloc (Nat.le_refl _) _
  have hWn : W.heap[w.heap.size]? = some (.cells #[.int .i64 6, .int .i64 pl, .int .u8 fn, .string (bs nm), .slice A n c] 37 (0, 0)) := by rw [hW]; exact heap_alloc_new w _
  have b0 := fun j => (show (W.drewN j).cell? ⟨w.heap.size, 0, none⟩ = some (.int .i64 6) by rw [show (W.drewN j).cell? ⟨w.heap.size, 0, none⟩ = W.cell? ⟨w.heap.size, 0, none⟩ from rfl, cell_of_row _ _ _ _ _ _ hWn]; rfl)
  have b2 := fun j => (show (W.drewN j).cell? ⟨w.heap.size, 2, none⟩ = some (.int .u8 fn) by rw [show (W.drewN j).cell? ⟨w.heap.size, 2, none⟩ = W.cell? ⟨w.heap.size, 2, none⟩ from rfl, cell_of_row _ _ _ _ _ _ hWn]; rfl)
  have HW := Lib.hid hW
  clear h hv hv1 hT hW hWn hf
  unfold itW
  go_enter Tryz.func102, Tryz.ntmps102
  go_wp2
  rw [← HW.out]
  have WB2 := HS.out.below hWb
  clear c0 c1 c2 f1 f2
  obtain ⟨c0, c1, c2, f1, f2⟩ := WB2.cells
  have r0 := fun j => (show (W.drewN j).cell? ⟨R, 0, none⟩ = some (.map (some M)) from c0)
  have l1 := fun j => hlk (W.drewN j) WB2.tab
  have g1 := fun w => fieldV1 (bs T.1) (bs T.2) w
  have g2 := fun w => fieldV2 (bs T.1) (bs T.2) w
  have HB := Lib.hid hWb
  clear WB2 hlk c0 c1 c2 f1 f2 hWb hd
  go_quiet (fail)
  go_wp2_with fail
  refine (markOf_any 6 _).mono ?_
  rintro e w2 ⟨rfl, rfl⟩
  have hm : bs (markW 6) = ⟨#[92]⟩ := rfl
  rw [hm]
  clear r0 l1 g1 g2
  go_wp2
  refine bodyPost_ret (v := .tuple #[.string ⟨#[]⟩, .bool false]) (R := SgNo w R) (by simp [results, Tryz.results102, go_sem]) rfl ?_
  exact ⟨rfl, (show Below w.heap.size w _ by first | exact HB.out | exact below_drewN HB.out HB.out.size).mono (Nat.le_of_lt hlt)⟩
set_option maxHeartbeats 3200000 in
theorem sign_7yes (w : World) (R M : Nat) (v : Value) (d : Int) (h : WB w R M v d) (hd : 0 ≤ d ∧ d ≤ 1000000) (pl fn : Int) (nm : List UInt8) (A : Option Addr) (n c : Nat) (hv : verbW fn true ≠ []) (hf : fn ≤ 17) :
    Calls Tryz.prog 102 #[.pointer (some ⟨R, 0, none⟩), itW 7 pl fn nm A n c] w (SgYes w R M v d 7 fn) := by
  obtain ⟨c0, c1, c2, f1, f2⟩ := h.cells
  have hlt := h.blt
  have hML := h.lt
  have HS := Lib.hid h
  have HD := Lib.hid hd
  obtain ⟨T, hT⟩ : ∃ T, T = lookT tabE fn := ⟨_, rfl⟩
  have hv1 : verbW fn true = T.2 := by rw [lookT_verb, hT]; rfl
  rw [hv1] at hv
  have HV := Lib.hid hv1
  have hbe : ((bs T.2).toList == []) = false := by rw [cmpB]; exact decide_eq_false hv
  have hz : (bs T.2).size ≤ 5 := by rw [bs_size, hT]; exact (lookT_len fn).2
  have hf1 : decide (17 < fn) = false := decide_eq_false (by omega)
  have hlk : ∀ W : World, W.heap[M]? = some (tabM 26) → (Instr.lookup 71 (.map (some M)) (.int .u8 fn) false).run Tryz.prog W = .ok (.agg #[.string (bs T.1), .string (bs T.2)]) W := fun W hW => by rw [hT]; exact look_verb W M fn hW
  obtain ⟨W, hW⟩ : ∃ W, W = w.alloc (.cells #[.int .i64 7, .int .i64 pl, .int .u8 fn, .string (bs nm), .slice A n c] 37) := ⟨_, rfl⟩
  have hWb : Below w.heap.size w W := by rw [hW]; exact (Below.refl _ _).alloc (Nat.le_refl _) _
  have hWn : W.heap[w.heap.size]? = some (.cells #[.int .i64 7, .int .i64 pl, .int .u8 fn, .string (bs nm), .slice A n c] 37 (0, 0)) := by rw [hW]; exact heap_alloc_new w _
  have b0 := fun j => (show (W.drewN j).cell? ⟨w.heap.size, 0, none⟩ = some (.int .i64 7) by rw [show (W.drewN j).cell? ⟨w.heap.size, 0, none⟩ = W.cell? ⟨w.heap.size, 0, none⟩ from rfl, cell_of_row _ _ _ _ _ _ hWn]; rfl)
  have b2 := fun j => (show (W.drewN j).cell? ⟨w.heap.size, 2, none⟩ = some (.int .u8 fn) by rw [show (W.drewN j).cell? ⟨w.heap.size, 2, none⟩ = W.cell? ⟨w.heap.size, 2, none⟩ from rfl, cell_of_row _ _ _ _ _ _ hWn]; rfl)
  have HW := Lib.hid hW
  clear h hv hv1 hT hW hWn hf
  unfold itW
  go_enter Tryz.func102, Tryz.ntmps102
  go_wp2
  rw [← HW.out]
  have WB2 := HS.out.below hWb
  clear c0 c1 c2 f1 f2
  obtain ⟨c0, c1, c2, f1, f2⟩ := WB2.cells
  have r0 := fun j => (show (W.drewN j).cell? ⟨R, 0, none⟩ = some (.map (some M)) from c0)
  have l1 := fun j => hlk (W.drewN j) WB2.tab
  have g1 := fun w => fieldV1 (bs T.1) (bs T.2) w
  have g2 := fun w => fieldV2 (bs T.1) (bs T.2) w
  have HB := Lib.hid hWb
  clear WB2 hlk c0 c1 c2 f1 f2 hWb hd
  go_quiet (fail)
  go_wp2_with fail
  refine (markOf_any 7 _).mono ?_
  rintro e w2 ⟨rfl, rfl⟩
  have hm : bs (markW 7) = ⟨#[46]⟩ := rfl
  rw [hm]
  clear r0 l1 g1 g2
  go_wp2_with fail
  refine (spend_any _ R M v d _ (HS.out.below (by first | exact HB.out | exact below_drewN HB.out HB.out.size)) HD.out (by decide)).mono ?_
  rintro e w3 ⟨rfl, rfl⟩
  go_wp2
  refine bodyPost_ret (v := .tuple #[.string (bs (verbW fn true ++ markW 7)), .bool (decide (1 + ((markW 7).length : Int) ≤ d))]) (R := SgYes w R M v d 7 fn) (by rw [HV.out, ← cat_bs, hm]; simp [results, Tryz.results102, go_sem, markW]) rfl ?_
  exact SgYes.of HS.out (by first | exact HB.out | exact below_drewN HB.out HB.out.size)
set_option maxHeartbeats 3200000 in
theorem sign_7no (w : World) (R M : Nat) (v : Value) (d : Int) (h : WB w R M v d) (hd : 0 ≤ d ∧ d ≤ 1000000) (pl fn : Int) (nm : List UInt8) (A : Option Addr) (n c : Nat) (hv : verbW fn true = []) :
    Calls Tryz.prog 102 #[.pointer (some ⟨R, 0, none⟩), itW 7 pl fn nm A n c] w (SgNo w R) := by
  obtain ⟨c0, c1, c2, f1, f2⟩ := h.cells
  have hlt := h.blt
  have hML := h.lt
  have HS := Lib.hid h
  have HD := Lib.hid hd
  obtain ⟨T, hT⟩ : ∃ T, T = lookT tabE fn := ⟨_, rfl⟩
  have hv1 : verbW fn true = T.2 := by rw [lookT_verb, hT]; rfl
  rw [hv1] at hv
  have HV := Lib.hid hv1
  have hbe : ((bs T.2).toList == []) = true := by rw [cmpB]; exact decide_eq_true hv
  have hlk : ∀ W : World, W.heap[M]? = some (tabM 26) → (Instr.lookup 71 (.map (some M)) (.int .u8 fn) false).run Tryz.prog W = .ok (.agg #[.string (bs T.1), .string (bs T.2)]) W := fun W hW => by rw [hT]; exact look_verb W M fn hW
  obtain ⟨W, hW⟩ : ∃ W, W = w.alloc (.cells #[.int .i64 7, .int .i64 pl, .int .u8 fn, .string (bs nm), .slice A n c] 37) := ⟨_, rfl⟩
  have hWb : Below w.heap.size w W := by rw [hW]; exact (Below.refl _ _).alloc (Nat.le_refl _) _
  have hWn : W.heap[w.heap.size]? = some (.cells #[.int .i64 7, .int .i64 pl, .int .u8 fn, .string (bs nm), .slice A n c] 37 (0, 0)) := by rw [hW]; exact heap_alloc_new w _
  have b0 := fun j => (show (W.drewN j).cell? ⟨w.heap.size, 0, none⟩ = some (.int .i64 7) by rw [show (W.drewN j).cell? ⟨w.heap.size, 0, none⟩ = W.cell? ⟨w.heap.size, 0, none⟩ from rfl, cell_of_row _ _ _ _ _ _ hWn]; rfl)
  have b2 := fun j => (show (W.drewN j).cell? ⟨w.heap.size, 2, none⟩ = some (.int .u8 fn) by rw [show (W.drewN j).cell? ⟨w.heap.size, 2, none⟩ = W.cell? ⟨w.heap.size, 2, none⟩ from rfl, cell_of_row _ _ _ _ _ _ hWn]; rfl)
  have HW := Lib.hid hW
  clear h hv hv1 hT hW hWn
  unfold itW
  go_enter Tryz.func102, Tryz.ntmps102
  go_wp2
  rw [← HW.out]
  have WB2 := HS.out.below hWb
  clear c0 c1 c2 f1 f2
  obtain ⟨c0, c1, c2, f1, f2⟩ := WB2.cells
  have r0 := fun j => (show (W.drewN j).cell? ⟨R, 0, none⟩ = some (.map (some M)) from c0)
  have l1 := fun j => hlk (W.drewN j) WB2.tab
  have g1 := fun w => fieldV1 (bs T.1) (bs T.2) w
  have g2 := fun w => fieldV2 (bs T.1) (bs T.2) w
  have HB := Lib.hid hWb
  clear WB2 hlk c0 c1 c2 f1 f2 hWb hd
  go_quiet (fail)
  go_wp2_with fail
  refine (markOf_any 7 _).mono ?_
  rintro e w2 ⟨rfl, rfl⟩
  have hm : bs (markW 7) = ⟨#[46]⟩ := rfl
  rw [hm]
  clear r0 l1 g1 g2
  go_wp2
  refine bodyPost_ret (v := .tuple #[.string ⟨#[]⟩, .bool false]) (R := SgNo w R) (by simp [results, Tryz.results102, go_sem]) rfl ?_
  exact ⟨rfl, (show Below w.heap.size w _ by first | exact HB.out | exact below_drewN HB.out HB.out.size).mono (Nat.le_of_lt hlt)⟩
set_option maxHeartbeats 3200000 in
theorem sign_7far (w : World) (R M : Nat) (v : Value) (d : Int) (h : WB w R M v d) (hd : 0 ≤ d ∧ d ≤ 1000000) (pl fn : Int) (nm : List UInt8) (A : Option Addr) (n c : Nat) (hv : verbW fn true ≠ []) (hf : ¬ fn ≤ 17) :
    Calls Tryz.prog 102 #[.pointer (some ⟨R, 0, none⟩), itW 7 pl fn nm A n c] w (SgNo w R) := by
  obtain ⟨c0, c1, c2, f1, f2⟩ := h.cells
  have hlt := h.blt
  have hML := h.lt
  have HS := Lib.hid h
  have HD := Lib.hid hd
  obtain ⟨T, hT⟩ : ∃ T, T = lookT tabE fn := ⟨_, rfl⟩
  have hv1 : verbW fn true = T.2 := by rw [lookT_verb, hT]; rfl
  rw [hv1] at hv
  have HV := Lib.hid hv1
  have hbe : ((bs T.2).toList == []) = false := by rw [cmpB]; exact decide_eq_false hv
  have hz : (bs T.2).size ≤ 5 := by rw [bs_size, hT]; exact (lookT_len fn).2
  have hf1 : decide (17 < fn) = true := decide_eq_true (by omega)
  have hlk : ∀ W : World, W.heap[M]? = some (tabM 26) → (Instr.lookup 71 (.map (some M)) (.int .u8 fn) false).run Tryz.prog W = .ok (.agg #[.string (bs T.1), .string (bs T.2)]) W := fun W hW => by rw [hT]; exact look_verb W M fn hW
  obtain ⟨W, hW⟩ : ∃ W, W = w.alloc (.cells #[.int .i64 7, .int .i64 pl, .int .u8 fn, .string (bs nm), .slice A n c] 37) := ⟨_, rfl⟩
  have hWb : Below w.heap.size w W := by rw [hW]; exact (Below.refl _ _).alloc (Nat.le_refl _) _
  have hWn : W.heap[w.heap.size]? = some (.cells #[.int .i64 7, .int .i64 pl, .int .u8 fn, .string (bs nm), .slice A n c] 37 (0, 0)) := by rw [hW]; exact heap_alloc_new w _
  have b0 := fun j => (show (W.drewN j).cell? ⟨w.heap.size, 0, none⟩ = some (.int .i64 7) by rw [show (W.drewN j).cell? ⟨w.heap.size, 0, none⟩ = W.cell? ⟨w.heap.size, 0, none⟩ from rfl, cell_of_row _ _ _ _ _ _ hWn]; rfl)
  have b2 := fun j => (show (W.drewN j).cell? ⟨w.heap.size, 2, none⟩ = some (.int .u8 fn) by rw [show (W.drewN j).cell? ⟨w.heap.size, 2, none⟩ = W.cell? ⟨w.heap.size, 2, none⟩ from rfl, cell_of_row _ _ _ _ _ _ hWn]; rfl)
  have HW := Lib.hid hW
  clear h hv hv1 hT hW hWn hf
  unfold itW
  go_enter Tryz.func102, Tryz.ntmps102
  go_wp2
  rw [← HW.out]
  have WB2 := HS.out.below hWb
  clear c0 c1 c2 f1 f2
  obtain ⟨c0, c1, c2, f1, f2⟩ := WB2.cells
  have r0 := fun j => (show (W.drewN j).cell? ⟨R, 0, none⟩ = some (.map (some M)) from c0)
  have l1 := fun j => hlk (W.drewN j) WB2.tab
  have g1 := fun w => fieldV1 (bs T.1) (bs T.2) w
  have g2 := fun w => fieldV2 (bs T.1) (bs T.2) w
  have HB := Lib.hid hWb
  clear WB2 hlk c0 c1 c2 f1 f2 hWb hd
  go_quiet (fail)
  go_wp2_with fail
  refine (markOf_any 7 _).mono ?_
  rintro e w2 ⟨rfl, rfl⟩
  have hm : bs (markW 7) = ⟨#[46]⟩ := rfl
  rw [hm]
  clear r0 l1 g1 g2
  go_wp2
  refine bodyPost_ret (v := .tuple #[.string ⟨#[]⟩, .bool false]) (R := SgNo w R) (by simp [results, Tryz.results102, go_sem]) rfl ?_
  exact ⟨rfl, (show Below w.heap.size w _ by first | exact HB.out | exact below_drewN HB.out HB.out.size).mono (Nat.le_of_lt hlt)⟩
end Go.Proofs.YtbapgdhcbfpdoaaGreatDoor
