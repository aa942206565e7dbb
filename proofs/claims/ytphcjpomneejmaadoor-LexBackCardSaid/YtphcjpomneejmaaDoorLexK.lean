/- Contracts of the document's answers for layer 3: Lex. -/
import Derived.Test.YtphcjpomneejmaaDoorLexJ
import Derived.Test.YtphcjpomneejmaaDoorLexF
namespace Go.Proofs.YtphcjpomneejmaaDoor
open Go.RowKit

theorem next_at (b : UInt8) (r : List UInt8) (s : ByteArray) (k : Nat) (w : World) (t : Tk) (n e : Int) (hx : nextR k b r = (t, n, e)) (hs : s.size ≤ 140737488355328) (hl : s.data.toList.drop k = b :: r) (h0 : blB b = false ∧ b.toNat ≠ 35) : Calls Tryd.prog 23 #[.string s, .int .i64 k] w (AnsT w t n e) := by
  have h := next_any b r s k w hs hl h0
  rw [hx] at h
  exact h
/-- What Next's answer says of the text. -/
theorem next_sel {k : Nat} {b : UInt8} {r : List UInt8} (h0 : blB b = false ∧ b.toNat ≠ 35) {t : Tk} {n e : Int} (hx : nextR k b r = (t, n, e)) :
    (e ≠ 0 → lexL (b :: r) k = .err k e) ∧ (e = 0 → ∃ m : Nat, n = (k + m : Nat) ∧ 0 < m ∧ m ≤ r.length + 1 ∧ lexL (b :: r) (k : Int) = Rs.pre [t] (lexL ((b :: r).drop m) ((k : Int) + m))) := by
  unfold nextR at hx
  split at hx
  · rename_i kd w v j hp
    injection hx with h1 h2
    injection h2 with h2 h3
    subst h1 h2 h3
    refine ⟨fun h => (h rfl).elim, fun _ => ⟨j + 1, by omega, by omega, by have := piece_le hp; omega, ?_⟩⟩
    rw [lex_tok hp, List.drop_succ_cons]
    congr 2
    omega
  · rename_i e' hp
    injection hx with h1 h2
    injection h2 with h2 h3
    subst h1 h2 h3
    refine ⟨fun _ => lex_bad hp _, fun h => ?_⟩
    exfalso
    subst h
    unfold piece at hp
    split at hp
    · cases hp
    split at hp
    · cases hp
    split at hp
    · cases hp
    split at hp
    · split at hp <;> cases hp
    split at hp
    · unfold numP at hp; split at hp <;> cases hp
    split at hp
    · unfold numP at hp; split at hp <;> cases hp
    split at hp
    · cases hp
    split at hp <;> cases hp
  · rename_i j hp
    rcases piece_skip hp with ⟨h, _⟩ | ⟨_, h⟩
    · rw [h0.1] at h; cases h
    · exfalso
      have h1 := h []
      unfold piece at h1
      rw [if_neg (by rw [h0.1]; simp), if_neg h0.2] at h1
      split at h1
      · cases h1
      split at h1
      · split at h1 <;> cases h1
      split at h1
      · exact numP_skip h1
      split at h1
      · exact numP_skip h1
      split at h1
      · cases h1
      split at h1 <;> cases h1
theorem bl_skip {b : UInt8} {r : List UInt8} (h : blB b = true) (a : Int) : lexL (b :: r) a = lexL ((b :: r).drop 1) (a + 1) := by
  have hp : piece b r = .skip 0 := by unfold piece; rw [if_pos h]
  rw [lex_skip hp]; simp
end Go.Proofs.YtphcjpomneejmaaDoor
