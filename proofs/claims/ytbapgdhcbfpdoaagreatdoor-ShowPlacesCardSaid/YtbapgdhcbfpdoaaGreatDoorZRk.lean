/- A program copied: the state of the loops. -/
import Derived.Test.YtbapgdhcbfpdoaaGreatDoorZRj
import Derived.Test.YtbapgdhcbfpdoaaGreatDoorZPf
import Derived.Test.YtbapgdhcbfpdoaaGreatDoorZSp
namespace Go.Proofs.YtbapgdhcbfpdoaaGreatDoor
open Go.RowKit
set_option linter.unusedVariables false
set_option linter.unusedSimpArgs false
set_option maxRecDepth 100000
theorem wpList_append_gen0 {w : World} {ops : Array Oper} {rest : List Oper} {o : Oper} {a : Act} {Q : Exit → Act → World → Prop} (hgd : o.guard = none) (sl x : Operand) (t : TypeId)
    (ho : o.op = .call { callee := .builtin .append, args := #[sl, x], argTypes := #[t, t] }) (e : TypeId) (i : TypeInfo) (z : Value) (size bytes : Nat) (ht : Tryz.prog.underlying t = some (.slice e)) (hi : Tryz.prog.info? e = some i) (hz : i.zero = some z) (hsize : i.size = size) (hby : i.bytes = bytes) (hzs : z.cells.size = size) (hsz : 0 < size)
    (B : Nat) (v : Value) (hs : a.eval sl = v) (h : w.ownsRow B e size v 0 []) (A2 : Option Addr) (m c2 : Nat) (news : List Value) (hx : a.eval x = .slice A2 m c2) (hn : news.length = m * size) (hr : NewsAt w A2 m news) (h1 : ∀ u ∈ news, u.oneCell' = true) (hm : m ≤ maxLen) (hbytes : m * bytes ≤ 140737488355328) (hb : B ≤ w.heap.size)
    (hK : ∀ A' c' w', w'.ownsRow B e size (.slice A' m c') m news → Below B w w' → (∀ b, b < w.heap.size → v.ownBlock ≠ some b → w'.heap[b]? = w.heap[b]?) → wpList Tryz.prog ops Q rest (a.put o.dst (.slice A' m c')) w') :
    wpList Tryz.prog ops Q (o :: rest) a w := by
  refine wpList_plain hgd fun K hK2 => ?_
  obtain ⟨A', c', w', hrun, h2, h3, h4⟩ := run_append_gen0 t o.type e i z size bytes ht hi hz hsize hby hzs hsz B v h A2 m c2 news hn hr h1 hm hbytes hb
  unfold Oper.wp execOp
  simp only [ho, resolve, invoke, builtin, Sem.run_bind, Sem.run_pure, Result.andThen_ok, List.map_toArray, List.map_cons, List.map_nil, hs, hx, hrun]
  exact hK2 _ _ (hK A' c' w' h2 h3 h4)
/-! ### what a copy is -/
def cpN (x : Inp) : Inp := ⟨x.nm, 7, x.sd⟩
def cpI (x : It) : It := ⟨x.how, 9, x.fn, x.nm, x.ns⟩
def cpL (m : Ln) : Ln := ⟨m.nm, 8, m.its.map cpI⟩
def cpP (p : Pg) : Pg := ⟨p.ins.map cpN, p.lns.map cpL⟩
theorem zI_cp (x : It) : zI (cpI x) = zI x := rfl
theorem zP_cp (p : Pg) : zP (cpP p) = zP p := by
  unfold zP cpP
  simp only [List.map_map]
  congr 1
  refine List.map_congr_left fun m _ => ?_
  simp only [Function.comp, zL, cpL, List.map_map]
  congr 1
theorem cpP_b {p : Pg} (h : PgB p) : PgB (cpP p) where
  ins := fun x hx => by
    obtain ⟨y, hy, rfl⟩ := List.mem_map.1 hx
    have := h.ins y hy
    exact ⟨this.nm, this.sd, this.len⟩
  lns := fun x hx => by
    obtain ⟨y, hy, rfl⟩ := List.mem_map.1 hx
    have hb := h.lns y hy
    refine ⟨hb.nm, fun z hz => ?_, by unfold cpL; simpa using hb.len⟩
    obtain ⟨u, hu, rfl⟩ := List.mem_map.1 hz
    have h2 := hb.its u hu
    exact ⟨h2.how, h2.fn, h2.nm, h2.ns, h2.len⟩
  lins := by unfold cpP; simpa using h.lins
  llns := by unfold cpP; simpa using h.llns
/-- Sides, numbers, items few enough to be copied. -/
structure CpB (p : Pg) : Prop where
  n : p.ins.length ≤ 100
  m : p.lns.length ≤ 100
  sd : ∀ x ∈ p.ins, x.sd.length * 24 ≤ 140737488351232
  its : ∀ x ∈ p.lns, x.its.length ≤ 1000
  ns : ∀ x ∈ p.lns, ∀ y ∈ x.its, y.ns.length ≤ 1000
theorem take_map_one {α β : Type} [Inhabited α] (f : α → β) {l : List α} {k : Nat} (h : k < l.length) : (l.take (k + 1)).map f = (l.take k).map f ++ [f (l.getD k default)] := by
  rw [List.take_add_one, List.getElem?_eq_getElem h, List.getD_eq_getElem?_getD, List.getElem?_eq_getElem h, List.map_append]; rfl
/-- The first loop. -/
structure CN (W0 : World) (P : Nat) (p : Pg) (k : Nat) (xs : List NM) (vi : Value) (w : World) : Prop where
  ps : PS w P xs [] vi (.slice none 0 0)
  bel : Below P W0 w
  cp : xs.map (·.inp) = (p.ins.take k).map cpN
theorem CN.len {W0 w : World} {P k : Nat} {p : Pg} {xs : List NM} {vi : Value} (h : CN W0 P p k xs vi w) (hk : k ≤ p.ins.length) : xs.length = k := by
  have := congrArg List.length h.cp
  simpa [Nat.min_eq_left hk] using this
/-- The second loop. -/
structure CL (W0 : World) (P : Nat) (p : Pg) (k : Nat) (xs : List NM) (ls : List LM) (vi vl : Value) (w : World) : Prop where
  ps : PS w P xs ls vi vl
  bel : Below P W0 w
  cpn : xs.map (·.inp) = p.ins.map cpN
  cp : ls.map (·.ln) = (p.lns.take k).map cpL
theorem CL.len {W0 w : World} {P k : Nat} {p : Pg} {xs : List NM} {ls : List LM} {vi vl : Value} (h : CL W0 P p k xs ls vi vl w) (hk : k ≤ p.lns.length) : ls.length = k := by
  have := congrArg List.length h.cp
  simpa [Nat.min_eq_left hk] using this
theorem CN.lines {W0 w : World} {P k : Nat} {p : Pg} {xs : List NM} {vi : Value} (h : CN W0 P p k xs vi w) (hk : k = p.ins.length) : CL W0 P p 0 xs [] vi (.slice none 0 0) w :=
  ⟨h.ps, h.bel, by rw [h.cp, hk, List.take_length], rfl⟩
/-- The loop inside. -/
structure CI (W1 : World) (L : Nat) (x : Ln) (k : Nat) (ms : List IM) (v : Value) (w : World) : Prop where
  ls : LS w L x.nm ms v
  bel : Below L W1 w
  cp : ms.map (·.it) = (x.its.take k).map cpI
theorem CI.len {W1 w : World} {L k : Nat} {x : Ln} {ms : List IM} {v : Value} (h : CI W1 L x k ms v w) (hk : k ≤ x.its.length) : ms.length = k := by
  have := congrArg List.length h.cp
  simpa [Nat.min_eq_left hk] using this
end Go.Proofs.YtbapgdhcbfpdoaaGreatDoor
