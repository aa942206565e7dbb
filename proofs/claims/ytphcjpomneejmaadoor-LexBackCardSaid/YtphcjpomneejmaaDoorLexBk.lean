/- What the law of what is spelled uses: two rows of its own, bytes and tokens. -/
import Derived.Lib.AppendStr
import Derived.Laws.BytesArg
import Derived.Test.YtphcjpomneejmaaDoorLexLz
namespace Go.Proofs.YtphcjpomneejmaaDoor
open Go.RowKit
theorem row_below {w w' : World} {base size n : Nat} {e : TypeId} {v : Value} {xs : List Value} (h : w.ownsRow base e size v n xs) (hb : Below w.heap.size w w') : w'.ownsRow base e size v n xs := by
  obtain ⟨h0, h1 | ⟨g, cap, cur, rfl, hg, hh, h2⟩⟩ := h
  · exact ⟨h0, .inl h1⟩
  · refine ⟨h0, .inr ⟨g, cap, cur, rfl, hg, ?_, h2⟩⟩
    rw [hb.block g ?_]
    · exact hh
    · rcases Nat.lt_or_ge g w.heap.size with h | h
      · exact h
      · rw [Array.getElem?_eq_none h] at hh; cases hh
theorem rows_ne {w : World} {b1 b2 s1 s2 n1 n2 : Nat} {e1 e2 : TypeId} {v1 v2 : Value} {x1 x2 : List Value} (h1 : w.ownsRow b1 e1 s1 v1 n1 x1) (h2 : w.ownsRow b2 e2 s2 v2 n2 x2) (hne : e1 ≠ e2) : v1.ownBlock = none ∨ v1.ownBlock ≠ v2.ownBlock := by
  rcases h1.2 with ⟨rfl, _⟩ | ⟨g1, c1, cur1, rfl, _, hh1, _⟩
  · exact .inl rfl
  · right
    rcases h2.2 with ⟨rfl, _⟩ | ⟨g2, c2, cur2, rfl, _, hh2, _⟩
    · simp [Value.ownBlock]
    · intro e
      simp [Value.ownBlock] at e
      subst e
      rw [hh1] at hh2
      simp at hh2
      exact hne hh2.2
def bcells (l : List UInt8) : List Value := l.map fun b => Value.int .u8 b.toNat
theorem str_cells (l : List UInt8) : Lib.strCells (bs l) = bcells l := by unfold Lib.strCells bcells; rw [bs_list]
theorem bcells_len (l : List UInt8) : (bcells l).length = l.length := by simp [bcells]
def OwnB (w : World) (base : Nat) (v : Value) (l : List UInt8) : Prop := w.ownsRow base 5 1 v l.length (bcells l)
theorem OwnB.nil (w : World) (base : Nat) : OwnB w base (.slice none 0 0) [] := World.ownsRow_nil w base _ _
theorem OwnB.shape {w : World} {base : Nat} {v : Value} {l : List UInt8} (h : OwnB w base v l) : ∃ A c, v = .slice A l.length c := by
  obtain ⟨_, ⟨rfl, h0⟩ | ⟨g, cap, cur, rfl, _⟩⟩ := h
  · exact ⟨none, 0, by rw [h0]⟩
  · exact ⟨_, _, rfl⟩
theorem OwnB.app {w : World} {base n : Nat} {v : Value} {l r : List UInt8} (h : w.ownsRow base 5 1 v n (bcells l ++ bcells r)) (hn : n = l.length + r.length) : OwnB w base v (l ++ r) := by
  subst hn
  unfold OwnB
  rw [List.length_append]
  have e : bcells (l ++ r) = bcells l ++ bcells r := by unfold bcells; rw [List.map_append]
  rw [e]; exact h
theorem infoB : (Tryd.prog.info? 5).map (fun i => (i.zero, i.size, i.bytes)) = some (some (.int .u8 0), 1, 1) := by kernel_rfl
/-- The text of a row of bytes. -/
theorem OwnB.text {w : World} {base : Nat} {A : Option Addr} {c : Nat} {l : List UInt8} (h : OwnB w base (.slice A l.length c) l) : (convert 36 9 (.slice A l.length c)).run Tryd.prog w = .ok (.string (bs l)) w := by
  cases A with
  | none =>
    have h0 : l = [] := by
      obtain ⟨_, ⟨e, h0⟩ | ⟨g, cap, cur, e, _⟩⟩ := h
      · exact List.length_eq_zero_iff.1 h0
      · injection e with e1; cases e1
    subst h0
    rw [run_convert_bytes_nil w _ _ Tryd.underlying36 Tryd.underlying5 _ _ _ Tryd.underlying9]
    rfl
  | some a =>
    refine run_convert_bytes_back w _ _ 5 a c l Tryd.underlying36 Tryd.underlying5 Tryd.underlying9 (fun j hj => ?_)
    have hb : ∃ g, a = ⟨g, 0, none⟩ := by
      obtain ⟨_, ⟨e, _⟩ | ⟨g, cap, cur, e, _⟩⟩ := h
      · injection e with e1; cases e1
      · injection e with e1; injection e1 with e1; exact ⟨g, e1⟩
    obtain ⟨g, rfl⟩ := hb
    refine World.ownsRow.cells h (g := g) rfl j _ ?_
    unfold bcells
    rw [List.getElem?_map, List.getElem?_eq_getElem hj]; rfl
theorem sp_len {t : Tk} (h : Sp t) (h0 : -9223372036854775808 ≤ t.n) (h1 : t.n ≤ 9223372036854775807) : (txt t).length ≤ 21 := by
  obtain ⟨b, r, hl, _, _, _, hp⟩ := h
  rcases piece_kind hp with ⟨hk, _⟩ | ⟨hk, _⟩ | ⟨hk, hw, h15, _⟩
  · unfold txt; rw [if_neg (by omega), if_pos hk]; simp
  · unfold txt; rw [if_pos hk]; exact digs_len h0 h1
  · rw [hl]; simp; omega
/-- The bytes so far are read as the tokens so far, whatever stands behind them. -/
def SpI (bl : List UInt8) (us : List Tk) : Prop := ∀ (r : List UInt8) (a : Int), lexL (bl ++ r) a = Rs.pre (us.map (mv a)) (lexL r (a + bl.length))
theorem SpI.nil : SpI [] [] := fun r a => by simp [pre_nil]
theorem SpI.snoc {bl : List UInt8} {us : List Tk} (h : SpI bl us) {t : Tk} (ht : Sp t) : SpI (bl ++ txt t ++ [32]) (us ++ [{ t with a := bl.length }]) := fun r a => by
  rw [List.append_assoc, List.append_assoc, h, List.singleton_append, lex_spelled ht, pre_pre, List.map_append]
  have e : Go.Proofs.YtphcjpomneejmaaDoor.mv a { t with a := bl.length } = { t with a := a + bl.length } := by unfold mv; simp; omega
  rw [List.map_cons, List.map_nil, e]
  congr 2
  simp
  omega
theorem SpI.read {bl : List UInt8} {us : List Tk} (h : SpI bl us) (hl : bl.length ≤ 65536) : lexR bl = .ok us := by
  have h1 := h [] 0
  rw [List.append_nil, lex_nil] at h1
  rw [lexR_small hl, h1]
  have e : us.map (mv 0) = us := by
    have : ∀ t : Tk, mv 0 t = t := fun t => by unfold mv; simp
    rw [show (mv 0) = id from funext this, List.map_id]
  rw [e]; simp [Rs.pre]
theorem blank_at (w : World) : ∀ (j : Nat) (u : Value), ([.int .u8 32] : List Value)[j]? = some u → (w.alloc (.cells #[.int .u8 32] 5)).cell? ((⟨w.heap.size, 0, none⟩ : Addr).add j) = some u := by
  intro j u hj
  rw [WideShapes.add_plain]
  cases j with
  | zero => simp at hj; subst hj; go_simp
  | succ j => simp at hj
/-- What is asked of a slice of tokens that comes in, besides what it reads as. -/
def Rd0 (_ : Option Addr) (l : List Tk) (_ : Nat) : Prop := l.length ≤ 9223372036854775807 ∧ True
end Go.Proofs.YtphcjpomneejmaaDoor
