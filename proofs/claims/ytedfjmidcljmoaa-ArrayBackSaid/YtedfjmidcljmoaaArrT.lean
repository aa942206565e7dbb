
/- Contracts of layer 6 in the laws' form; arrays that come in. -/
import Derived.OpenShut
import Derived.ProofKit
import Derived.Lib.SmallJoins
import Derived.Test.YtedfjmidcljmoaaArrS
namespace Go.Proofs.Ytedfjmidcljmoaa
open Go.ChangeShapes Go.WideShapes Go.ChangeAt Go.RowKit Go.WideElems Go.Deep Go.Joins
set_option linter.unusedVariables false
def PairB (w : World) (r : Int × Int) (e : Ending) (w' : World) : Prop := e = .returned (.tuple #[.int .i64 r.1, .int .i64 r.2]) ∧ Below w.heap.size w w'
theorem size_b (A : Option Addr) (s : List Int) (c : Nat) (w : World) (h : RdA w A s) (hl : s.length ≤ 9223372036854775807) : Calls Try.prog 10 #[.slice A s.length c] w (PairB w (szR s)) :=
  (size_any A s c _ w h rfl (by unfold maxLen; omega)).mono fun e w' ⟨h1, h2⟩ => ⟨h1, by rw [h2]; exact Below.refl _ _⟩
theorem refsize_b (A : Option Addr) (s : List Int) (c : Nat) (w : World) (h : RdA w A s) (hl : s.length ≤ 9223372036854775807) : Calls Try.prog 11 #[.slice A s.length c] w (PairB w (szR s)) :=
  (refsize_any A s c _ w h rfl (by unfold maxLen; omega)).mono fun e w' ⟨h1, h2⟩ => ⟨h1, by rw [h2]; exact Below.refl _ _⟩
theorem place_b (A : Option Addr) (n c : Nat) (B : Option Addr) (m d : Nat) (s i : List Int) (w : World) (h : RdA w A s) (g : RdA w B i) (hn : s.length = n) (hm : i.length = m) (ln : n ≤ 9223372036854775807) (lm : m ≤ 9223372036854775807) : Calls Try.prog 14 #[.slice A n c, .slice B m d] w (PairB w (plR s i)) :=
  (place_any A n c B m d s i w h g hn hm ln lm).mono fun _ _ h => h.b
theorem refplace_b (A : Option Addr) (n c : Nat) (B : Option Addr) (m d : Nat) (s i : List Int) (w : World) (h : RdA w A s) (g : RdA w B i) (hn : s.length = n) (hm : i.length = m) (ln : n ≤ 9223372036854775807) (lm : m ≤ 9223372036854775807) : Calls Try.prog 15 #[.slice A n c, .slice B m d] w (PairB w (plR s i)) :=
  (refplace_any A n c B m d s i w h g hn hm ln lm).mono fun _ _ h => h.b
theorem ints_b (A : Option Addr) (n c : Nat) (B : Option Addr) (m d : Nat) (a b : List Int) (w : World) (h : RdA w A a) (g : RdA w B b) (hn : a.length = n) (hm : b.length = m) (ln : n ≤ 9223372036854775807) (lm : m ≤ 9223372036854775807) : Calls Try.prog 18 #[.slice A n c, .slice B m d] w (BoolB w (eqA a b)) :=
  (ints_any A n c B m d a b w h g hn hm ln lm).mono fun _ _ h => h.b
theorem ints_self (A : Option Addr) (n c : Nat) (B : Option Addr) (m d : Nat) (a : List Int) (w : World) (h : RdA w A a) (g : RdA w B a) (hn : a.length = n) (hm : a.length = m) (ln : n ≤ 9223372036854775807) : Calls Try.prog 18 #[.slice A n c, .slice B m d] w (BoolB w true) := by
  have := ints_b A n c B m d a a w h g hn hm ln (by omega)
  rwa [eq_self] at this
theorem same_self (As : Option Addr) (ns cs : Nat) (Ad : Option Addr) (nd cd : Nat) (s d : List Int) (Bs : Option Addr) (ms es : Nat) (Bd : Option Addr) (md ed : Nat) (w : World) (h : ArU w As ns cs Ad nd cd s d) (g : ArU w Bs ms es Bd md ed s d) :
    Calls Try.prog 23 #[.agg #[.slice As ns cs, .slice Ad nd cd], .agg #[.slice Bs ms es, .slice Bd md ed]] w (BoolB w true) := by
  have := same_any As ns cs Ad nd cd s d Bs ms es Bd md ed s d w h g
  rwa [eq_self, eq_self] at this
theorem LnR.at_ {w : World} {B n c j : Nat} {A : Option Addr} {cs : List Value} {ls : List (List Int)} (h : LnR w B (.slice A n c) n cs ls) (hb : ∀ l ∈ ls, l.length ≤ 65536 ∧ ∀ x ∈ l, rngA x) (hj : j < n) :
    ∃ (g : Nat) (Y : Option Addr) (m c' : Nat), A = some ⟨g, 0, none⟩ ∧ w.cell? ⟨g, j, none⟩ = some (.slice Y m c') ∧ RdA w Y (ls.getD j []) ∧ (ls.getD j []).length = m ∧ m ≤ 65536 := by
  obtain ⟨Y, m, c', h1, h2⟩ := h.lane j hj
  rcases h.own.2 with ⟨_, h0⟩ | ⟨g, cap, cur, hv, _⟩
  · omega
  · injection hv with hv _ _
    have hm : (ls.getD j []).length = m := by have := h2.1; simpa using this
    have hl : ls.getD j [] ∈ ls := by
      rw [List.getD_eq_getElem?_getD, List.getElem?_eq_getElem (by rw [h.ll]; exact hj)]
      exact List.getElem_mem _
    subst hv
    refine ⟨g, Y, m, c', rfl, ?_, RdA.of_own h2 (hb _ hl).2, hm, by rw [← hm]; exact (hb _ hl).1⟩
    rw [World.ownsRow.cellAt h.own j (by omega), h1]
theorem ints_q (A : Option Addr) (n c : Nat) (B : Option Addr) (m d : Nat) (a : List Int) (w : World) (h : RdA w A a) (g : RdA w B a) (hn : a.length = n) (hm : a.length = m) (ln : n ≤ 9223372036854775807) : Calls Try.prog 18 #[.slice A n c, .slice B m d] w fun e w' => e = .returned (.bool true) ∧ ∃ k, w' = w.drewN k := by
  have := ints_any A n c B m d a a w h g hn hm ln (by omega)
  rw [eq_self] at this
  exact this
theorem pl_of_ix {s : List Int} {p : Int} (h : okA s) (g : 0 ≤ p ∧ p < prodA s) : plR s (ixA s p) = (p, 0) := by
  have := ix_in (ok_nn h) g.1 g.2
  rw [pl_yes h this.1, this.2]
theorem ix_of_pl {s i : List Int} (h : okA s) (g : inA s i) : ixR s (plA s i) = (i, 0) := by
  rw [ix_yes h (plA_rng g), ix_pl g]
theorem index_r (A : Option Addr) (n c : Nat) (p : Int) (s : List Int) (w : World) (h : RdA w A s) (hn : s.length = n) (ln : n ≤ 9223372036854775807) {r : List Int × Int} (e : ixR s p = r) : Calls Try.prog 16 #[.slice A n c, .int .i64 p] w (IdxR w r) := by
  rw [← e]; exact index_any A n c p s w h hn ln
theorem place_r (A : Option Addr) (n c : Nat) (B : Option Addr) (m d : Nat) (s i : List Int) (w : World) (h : RdA w A s) (g : RdA w B i) (hn : s.length = n) (hm : i.length = m) (ln : n ≤ 9223372036854775807) (lm : m ≤ 9223372036854775807) {r : Int × Int} (e : plR s i = r) : Calls Try.prog 14 #[.slice A n c, .slice B m d] w (PairB w r) := by
  rw [← e]; exact place_b A n c B m d s i w h g hn hm ln lm
theorem size_r (A : Option Addr) (s : List Int) (c : Nat) (w : World) (h : RdA w A s) (hl : s.length ≤ 9223372036854775807) {r : Int × Int} (e : szR s = r) : Calls Try.prog 10 #[.slice A s.length c] w (PairB w r) := by
  rw [← e]; exact size_b A s c w h hl
theorem cell_r (As : Option Addr) (ns cs : Nat) (Ad : Option Addr) (nd cd : Nat) (k : Int) (s d : List Int) (w : World) (h : ArU w As ns cs Ad nd cd s d) {r : (List Int × List Int) × Int} (e : ceR s d k = r) : Calls Try.prog 19 #[.agg #[.slice As ns cs, .slice Ad nd cd], .int .i64 k] w (CellR w r) := by
  rw [← e]; exact cell_any As ns cs Ad nd cd k s d w h
theorem lanes_r (As : Option Addr) (ns cs : Nat) (Ad : Option Addr) (nd cd : Nat) (s d : List Int) (w : World) (h : ArU w As ns cs Ad nd cd s d) {r : List (List Int) × Int} (e : laR s d = r) : Calls Try.prog 21 #[.agg #[.slice As ns cs, .slice Ad nd cd]] w (LanesR w r) := by
  rw [← e]; exact lanes_any As ns cs Ad nd cd s d w h
section
variable {H : Type} {enc : TypeId × Value → H} {W : World} {held : Bool}
theorem cells_array : Try.prog.cellsOf 24 = 2 := by kernel_rfl
theorem aru_of {As Ad : Option Addr} {cs cd : Nat} {s d : List Int} (h1 : RdA W As s) (h2 : RdA W Ad d) (h3 : s.length ≤ cs ∧ cs ≤ maxLen) (h4 : d.length ≤ cd ∧ cd ≤ maxLen) : ArU W As s.length cs Ad d.length cd s d := by
  unfold maxLen at h3 h4
  exact ⟨h1, h2, rfl, rfl, h3.1, h4.1, by omega, by omega⟩
theorem len_of {l : List Int} {c : Nat} (h : l.length ≤ c ∧ c ≤ maxLen) : l.length ≤ 9223372036854775807 := by
  unfold maxLen at h; omega
end
end Go.Proofs.Ytedfjmidcljmoaa
