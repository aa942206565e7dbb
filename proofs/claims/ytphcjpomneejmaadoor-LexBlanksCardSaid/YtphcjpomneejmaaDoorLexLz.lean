/- More that the laws of layer 3 use. -/
import Derived.Deep.RegionWith
import Derived.Test.YtphcjpomneejmaaDoorLexLx
namespace Go.Proofs.YtphcjpomneejmaaDoor
open Go.RowKit
theorem sh_split {l A B : List Tk} {t : Tk} (h : l = A ++ t :: B) (hp : l.Pairwise (fun x y => x.a < y.a)) : l.map (sh t.a 1) = A ++ (t :: B).map (mv 1) := by
  subst h
  rw [List.map_append]
  obtain ⟨_, h2, h3⟩ := List.pairwise_append.1 hp
  have e1 : A.map (sh t.a 1) = A := by
    have : ∀ x ∈ A, sh t.a 1 x = id x := fun x hx => by
      have := h3 x hx t (by simp)
      unfold sh; rw [if_neg (by omega)]; rfl
    rw [List.map_congr_left this, List.map_id]
  have e2 : (t :: B).map (sh t.a 1) = (t :: B).map (mv 1) := List.map_congr_left fun x hx => by
    have : t.a ≤ x.a := by
      rcases List.mem_cons.1 hx with rfl | hx
      · exact Int.le_refl _
      · have := (List.pairwise_cons.1 h2).1 x hx; omega
    unfold sh mv; rw [if_pos this]
  rw [e1, e2]
theorem draw_up (w : World) (n : Nat) : Below w.heap.size w (w.drewN n) := below_drewN (Below.refl _ _) (Nat.le_refl _)
end Go.Proofs.YtphcjpomneejmaaDoor
