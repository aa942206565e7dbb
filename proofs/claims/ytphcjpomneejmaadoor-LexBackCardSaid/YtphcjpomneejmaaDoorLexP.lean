/- Contracts: read, Same; tokens and faults compared. -/
import Derived.Test.YtphcjpomneejmaaDoorLexL
namespace Go.Proofs.YtphcjpomneejmaaDoor
open Go.RowKit

theorem tk_eq (x y : Tk) : x = y ↔ x.k = y.k ∧ x.a = y.a ∧ x.w = y.w ∧ x.n = y.n := by
  cases x; cases y; simp
set_option maxHeartbeats 400000 in
theorem neqT (x y : Tk) (w : World) : (binOp .neq 32 (.agg #[.int .i64 x.k, .int .i64 x.a, .string (bs x.w), .int .i64 x.n]) (.agg #[.int .i64 y.k, .int .i64 y.a, .string (bs y.w), .int .i64 y.n])).run Tryd.prog w = .ok (.bool (!decide (x = y))) w := by
  go_simp
  rw [ByteArray.toList_eq, ByteArray.toList_eq, bs_list, bs_list]
  by_cases h1 : x.k = y.k <;> by_cases h2 : x.a = y.a <;> by_cases h3 : x.w = y.w <;> by_cases h4 : x.n = y.n <;> simp [h1, h2, h3, h4, tk_eq]
set_option maxHeartbeats 400000 in
theorem eqT (x y : Tk) (w : World) : (binOp .eql 32 (.agg #[.int .i64 x.k, .int .i64 x.a, .string (bs x.w), .int .i64 x.n]) (.agg #[.int .i64 y.k, .int .i64 y.a, .string (bs y.w), .int .i64 y.n])).run Tryd.prog w = .ok (.bool (decide (x = y))) w := by
  go_simp
  rw [ByteArray.toList_eq, ByteArray.toList_eq, bs_list, bs_list]
  by_cases h1 : x.k = y.k <;> by_cases h2 : x.a = y.a <;> by_cases h3 : x.w = y.w <;> by_cases h4 : x.n = y.n <;> simp [h1, h2, h3, h4, tk_eq]
set_option maxHeartbeats 400000 in
theorem eqF (a e b f : Int) (w : World) : (binOp .eql 26 (.agg #[.int .i64 a, .int .i64 e]) (.agg #[.int .i64 b, .int .i64 f])).run Tryd.prog w = .ok (.bool (decide (a = b ∧ e = f))) w := by
  go_simp
  by_cases h1 : a = b <;> by_cases h2 : e = f <;> simp [h1, h2]
set_option maxHeartbeats 400000 in
theorem neqF (a e b f : Int) (w : World) : (binOp .neq 26 (.agg #[.int .i64 a, .int .i64 e]) (.agg #[.int .i64 b, .int .i64 f])).run Tryd.prog w = .ok (.bool (!decide (a = b ∧ e = f))) w := by
  go_simp
  by_cases h1 : a = b <;> by_cases h2 : e = f <;> simp [h1, h2]

/-! ### faults are told by their code -/
theorem bad_ne {b : UInt8} {r : List UInt8} {e : Int} (hp : piece b r = .bad e) : e ≠ 0 := by
  intro h
  subst h
  unfold piece at hp
  split at hp
  · cases hp
  split at hp
  · cases hp
  split at hp
  · cases hp
  split at hp
  · split at hp <;> cases hp
  split at hp
  · unfold numP at hp; split at hp <;> cases hp
  split at hp
  · unfold numP at hp; split at hp <;> cases hp
  split at hp
  · cases hp
  split at hp <;> cases hp
theorem lex_err_ne : ∀ (n : Nat) (l : List UInt8) (a : Int), l.length ≤ n → ∀ p e, lexL l a = .err p e → e ≠ 0 := by
  intro n
  induction n with
  | zero =>
    intro l a hl p e h
    obtain rfl : l = [] := List.length_eq_zero_iff.1 (by omega)
    rw [lex_nil] at h; cases h
  | succ n ih =>
    intro l a hl p e h
    cases l with
    | nil => rw [lex_nil] at h; cases h
    | cons b r =>
      simp at hl
      cases hp : piece b r with
      | skip k => rw [lex_skip hp] at h; exact ih _ _ (by rw [List.length_drop]; omega) _ _ h
      | tok kd w v k => rw [lex_tok hp] at h; exact ih _ _ (by rw [List.length_drop]; omega) _ _ (pre_err h)
      | bad e' => rw [lex_bad hp] at h; injection h with h1 h2; subst h2; exact bad_ne hp
theorem lexR_ne {l : List UInt8} {p e : Int} (h : lexR l = .err p e) : e ≠ 0 := by
  unfold lexR at h
  split at h
  · injection h with h1 h2; omega
  · exact lex_err_ne _ _ _ (Nat.le_refl _) _ _ h
def Rs.good : Rs → Bool
  | .ok _ => true
  | .err _ _ => false
theorem good_of {l : List UInt8} : (lexR l).good = decide ((lexR l).fa = 0 ∧ (lexR l).fe = 0) := by
  cases h : lexR l with
  | ok ts => rfl
  | err p e => have := lexR_ne h; simp [Rs.good, Rs.fa, Rs.fe, this]
def ReadRes (w : World) (x : Rs) (e : Ending) (w' : World) : Prop :=
  ∃ A c, e = .returned (.tuple #[.slice A x.toks.length c, .bool x.good]) ∧ Own w' w.heap.size (.slice A x.toks.length c) x.toks ∧ Below w.heap.size w w'
theorem below_drewN {n k : Nat} {w w' : World} (h : Below n w w') (hn : n ≤ w'.heap.size) : Below n w (w'.drewN k) := h.trans (Below.mono (Gr.below ⟨k, #[], by rw [Go.Sort.grow_empty]⟩) hn)

set_option maxHeartbeats 1000000 in
theorem read_any (s : ByteArray) (w : World) (hL : Laid w) (hs : s.size ≤ 140737488355328) : Calls Tryd.prog 17 #[.string s] w (ReadRes w (lexR s.data.toList)) := by
  have hgd := Lib.hid (@good_of s.data.toList)
  have hcon := fun w hL => lex_any s w hL hs
  obtain ⟨x, hx⟩ : ∃ x, x = lexR s.data.toList := ⟨_, rfl⟩
  rw [← hx] at hgd hcon ⊢
  have HX := Lib.hid hx
  clear hx
  have hq := fun W => eqF x.fa x.fe 0 0 W
  rw [← hgd.out] at hq
  go_enter Tryd.func17, Tryd.ntmps17
  go_wp2_with (go_at_call 12; refine (hcon _ hL).mono ?_; rintro e W ⟨A, c, rfl, ho, hb⟩)
  have HO := Lib.hid ho
  have HB := Lib.hid hb
  clear ho hb
  go_quiet (fail)
  go_wp2
  go_ret2
  exact ⟨A, c, rfl, (HO.out.below ((Below.refl _ _).alloc (Nat.le_refl _) _)).below (below_drewN (Below.refl _ _) (Nat.le_refl _)), below_drewN (HB.out.alloc HB.out.size _) (by have := HB.out.size; simp; omega)⟩
end Go.Proofs.YtphcjpomneejmaaDoor
