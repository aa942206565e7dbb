/- Layer 4, put together: LexW, LexX. -/
import Derived.Test.YtbapgdhcbfpdoaaDoorZLd
/- Contract of the document's answers for layer 3: Spell. -/
namespace Go.Proofs.YtbapgdhcbfpdoaaDoor
open Go.RowKit

theorem conv10 (w : World) (o : Obj) : (convert 67 9 (.slice (some ⟨w.heap.size + 1, 0, none⟩) 1 1)).run Tryd.prog ((w.alloc o).alloc (.cells #[.int .u8 10] 5)) = .ok (.string (bs [10])) ((w.alloc o).alloc (.cells #[.int .u8 10] 5)) := by
  have h := conv1 (w.alloc o) 10
  rwa [show (w.alloc o).heap.size = w.heap.size + 1 from by simp] at h
end Go.Proofs.YtbapgdhcbfpdoaaDoor
/- Contracts: the document's Spell whole; shown. -/
namespace Go.Proofs.YtbapgdhcbfpdoaaDoor
open Go.RowKit

theorem lex1 : lexR [60, 61, 32, 60, 61, 61] = .ok [⟨3, 0, [60, 61], 0⟩, ⟨3, 3, [60, 61], 0⟩, ⟨3, 5, [61], 0⟩] := by
  unfold lexR
  rw [if_neg (by decide), lex_tok (show piece 60 [61, 32, 60, 61, 61] = .tok 3 [60, 61] 0 1 from rfl), List.drop_succ_cons, List.drop_zero, lex_skip (show piece 32 [60, 61, 61] = .skip 0 from rfl), List.drop_zero,
    lex_tok (show piece 60 [61, 61] = .tok 3 [60, 61] 0 1 from rfl), List.drop_succ_cons, List.drop_zero, lex_tok (show piece 61 [] = .tok 3 [61] 0 0 from rfl), List.drop_zero, lex_nil]
  rfl
theorem lex2 : lexR [95, 48, 48, 55, 97] = .ok [⟨2, 0, [], -7⟩, ⟨1, 4, [97], 0⟩] := by
  unfold lexR
  rw [if_neg (by decide), lex_tok (show piece 95 [48, 48, 55, 97] = .tok 2 [] (-7) 3 from rfl), List.drop_succ_cons, List.drop_succ_cons, List.drop_succ_cons, List.drop_zero,
    lex_tok (show piece 97 [] = .tok 1 [97] 0 0 from rfl), List.drop_zero, lex_nil]
  rfl
theorem lex3 : lexR [97, 32, 95, 98] = .err 2 31 := by
  unfold lexR
  rw [if_neg (by decide), lex_tok (show piece 97 [32, 95, 98] = .tok 1 [97] 0 0 from rfl), List.drop_zero, lex_skip (show piece 32 [95, 98] = .skip 0 from rfl), List.drop_zero,
    lex_bad (show piece 95 [98] = .bad 31 from rfl)]
  rfl
theorem dec7 : Lib.decDigits 7 = [55] := by rw [Lib.decDigits, dif_pos (by decide)]; rfl
theorem txt7 : txt ⟨2, 0, [], -7⟩ = [95, 55] := by
  unfold txt; rw [if_pos rfl]
  unfold digs; rw [if_pos (by decide)]
  show 95 :: Lib.decDigits 7 = _
  rw [dec7]
theorem sp7 : Sp ⟨2, 0, [], -7⟩ := ⟨95, [55], txt7, by decide, by decide, by decide, rfl⟩
theorem lex_at (s : ByteArray) (w : World) (x : Rs) (hx : lexR s.data.toList = x) (hL : Laid w) (hs : s.size ≤ 140737488355328) : Calls Tryd.prog 13 #[.string s] w (TokRes w x) := by
  subst hx; exact lex_any s w hL hs
def LexOk (w : World) (ts : List Tk) (n : Nat) (e : Ending) (w' : World) : Prop := ∃ A c, e = .returned (.tuple #[.slice A n c, .agg #[.int .i64 0, .int .i64 0]]) ∧ Rd w' w'.heap.size A ts ∧ Below w.heap.size w w'
theorem lex_ok (s : ByteArray) (w : World) (ts : List Tk) (n : Nat) (hx : lexR s.data.toList = .ok ts) (hn : ts.length = n) (hL : Laid w) (hs : s.size ≤ 140737488355328) : Calls Tryd.prog 13 #[.string s] w (LexOk w ts n) := by
  subst hn
  exact (lex_at s w _ hx hL hs).mono fun e w' ⟨A, c, he, ho, hb⟩ => ⟨A, c, he, ho.rd, hb⟩
def LexErr (w : World) (a f : Int) (e : Ending) (w' : World) : Prop := ∃ A c, e = .returned (.tuple #[.slice A 0 c, .agg #[.int .i64 a, .int .i64 f]]) ∧ Below w.heap.size w w'
theorem lex_err (s : ByteArray) (w : World) (a f : Int) (hx : lexR s.data.toList = .err a f) (hL : Laid w) (hs : s.size ≤ 140737488355328) : Calls Tryd.prog 13 #[.string s] w (LexErr w a f) :=
  (lex_at s w _ hx hL hs).mono fun _ _ ⟨A, c, he, _, hb⟩ => ⟨A, c, he, hb⟩
/-- A fault in a block. -/
def FaultAt (w : World) (b : Nat) (a f : Int) : Prop := w.cell? ⟨b, 0, none⟩ = some (.int .i64 a) ∧ w.cell? ⟨b, 1, none⟩ = some (.int .i64 f) ∧ b < w.heap.size
theorem FaultAt.new (w : World) (a f : Int) : FaultAt (w.alloc (.cells #[.int .i64 a, .int .i64 f] 32)) w.heap.size a f := by
  refine ⟨?_, ?_, ?_⟩ <;> (go_simp)
theorem FaultAt.below {w w' : World} {b : Nat} {a f : Int} (h : FaultAt w b a f) (hb : Below w.heap.size w w') : FaultAt w' b a f :=
  ⟨by rw [hb.cell (p := ⟨b, 0, none⟩) h.2.2]; exact h.1, by rw [hb.cell (p := ⟨b, 1, none⟩) h.2.2]; exact h.2.1, Nat.lt_of_lt_of_le h.2.2 hb.size⟩
theorem up {w : World} (o : Obj) : Below w.heap.size w (w.alloc o) := (Below.refl _ _).alloc (Nat.le_refl _) _
theorem up2 {w w1 w2 : World} (h : Below w.heap.size w w1) (k : Below w1.heap.size w1 w2) : Below w.heap.size w w2 := h.trans (k.mono h.size)
theorem spell7 (w : World) (hL : Laid w) : Calls Tryd.prog 14 #[.agg #[.int .i64 2, .int .i64 0, .string ⟨#[]⟩, .int .i64 (-7)]] w fun e w' => e = .returned (.tuple #[.string ⟨#[95, 55]⟩, .bool true]) ∧ Below w.heap.size w w' :=
  (spell_any ⟨2, 0, [], -7⟩ w hL ⟨⟨by decide, by decide⟩, by decide⟩).mono fun _ _ ⟨he, hb⟩ => ⟨by rw [he, sp_yes sp7, txt7]; rfl, hb⟩
end Go.Proofs.YtbapgdhcbfpdoaaDoor
