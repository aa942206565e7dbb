
/- The law ArraySizes. -/
import Derived.Test.YtedfjmidcljmoaaArrT
namespace Go.Proofs.Ytedfjmidcljmoaa.arraySizes
open Go.ChangeShapes Go.WideShapes Go.ChangeAt Go.RowKit Go.Joins
set_option linter.unusedVariables false
set_option linter.unusedSimpArgs false
set_option maxRecDepth 100000 in
set_option maxHeartbeats 1000000 in
theorem walk (A0 : Option Addr) (a0 : List Int) (k0 : Nat) (S1 : Option Addr) (s1 : List Int) (p1 : Nat) (D1 : Option Addr) (d1 : List Int) (q1 : Nat) (w : World) (r0 : RdA w A0 a0) (m0 : a0.length ≤ 9223372036854775807) (u1 : ArU w S1 s1.length p1 D1 d1.length q1 s1 d1) :
    Calls Try.prog 3 #[.slice A0 a0.length k0, .agg #[.slice S1 s1.length p1, .slice D1 d1.length q1]] w (BoolB w true) := by
  have Hu1 := Lib.hid u1
  clear u1
  have Hr0 := Lib.hid r0
  clear r0
  go_enter Try.func3, Try.ntmps3
  go_wp2_with fail
  refine (shown_any _).mono ?_
  rintro e W1 ⟨rfl, b1⟩
  obtain ⟨hc, hf⟩ := blw_reads b1
  have x0 : W1.cell? ⟨w.heap.size, 0, none⟩ = some (.slice S1 s1.length p1) := by rw [hc _ _ (by simp)]; go_simp
  have x1 : W1.cell? ⟨w.heap.size, 1, none⟩ = some (.slice D1 d1.length q1) := by rw [hc _ _ (by simp)]; go_simp
  have hz1 : w.heap.size < W1.heap.size := by have := b1.size; simp at this; omega
  replace b1 : Below w.heap.size w W1 := ((Below.refl _ _).alloc (Nat.le_refl _) (.cells #[.slice S1 s1.length p1, .slice D1 d1.length q1] 24)).trans (b1.mono (by simp))
  clear hc hf
  replace Hr0 := Lib.hid (Hr0.out.below b1)
  replace Hu1 := Lib.hid (Hu1.out.below b1)
  have B := Lib.hid b1
  clear b1
  go_wp2_with fail
  refine (size_b _ _ _ _ Hr0.out m0).mono ?_
  rintro e W2 ⟨rfl, b2⟩
  replace x0 : W2.cell? ⟨w.heap.size, 0, none⟩ = some (.slice S1 s1.length p1) := (b2.cell (p := ⟨w.heap.size, 0, none⟩) hz1).trans x0
  replace x1 : W2.cell? ⟨w.heap.size, 1, none⟩ = some (.slice D1 d1.length q1) := (b2.cell (p := ⟨w.heap.size, 1, none⟩) hz1).trans x1
  replace hz1 := Nat.lt_of_lt_of_le hz1 b2.size
  replace Hr0 := Lib.hid (Hr0.out.below b2)
  replace Hu1 := Lib.hid (Hu1.out.below b2)
  replace B := Lib.hid (B.out.trans (b2.mono B.out.size))
  clear b2
  go_wp2_with fail
  refine (refsize_b _ _ _ _ Hr0.out m0).mono ?_
  rintro e W3 ⟨rfl, b3⟩
  replace x0 : W3.cell? ⟨w.heap.size, 0, none⟩ = some (.slice S1 s1.length p1) := (b3.cell (p := ⟨w.heap.size, 0, none⟩) hz1).trans x0
  replace x1 : W3.cell? ⟨w.heap.size, 1, none⟩ = some (.slice D1 d1.length q1) := (b3.cell (p := ⟨w.heap.size, 1, none⟩) hz1).trans x1
  replace hz1 := Nat.lt_of_lt_of_le hz1 b3.size
  replace Hr0 := Lib.hid (Hr0.out.below b3)
  replace Hu1 := Lib.hid (Hu1.out.below b3)
  replace B := Lib.hid (B.out.trans (b3.mono B.out.size))
  clear b3
  go_wp2_with fail
  refine (right_any _ _ _ _ _ _ s1 d1 _ Hu1.out).mono ?_
  rintro e W4 ⟨rfl, b4⟩
  replace x0 : W4.cell? ⟨w.heap.size, 0, none⟩ = some (.slice S1 s1.length p1) := (b4.cell (p := ⟨w.heap.size, 0, none⟩) hz1).trans x0
  replace x1 : W4.cell? ⟨w.heap.size, 1, none⟩ = some (.slice D1 d1.length q1) := (b4.cell (p := ⟨w.heap.size, 1, none⟩) hz1).trans x1
  replace hz1 := Nat.lt_of_lt_of_le hz1 b4.size
  replace Hr0 := Lib.hid (Hr0.out.below b4)
  replace Hu1 := Lib.hid (Hu1.out.below b4)
  replace B := Lib.hid (B.out.trans (b4.mono B.out.size))
  clear b4
  go_wp2_with fail
  refine (refright_any _ _ _ _ _ _ s1 d1 _ Hu1.out).mono ?_
  rintro e W5 ⟨rfl, b5⟩
  replace x0 : W5.cell? ⟨w.heap.size, 0, none⟩ = some (.slice S1 s1.length p1) := (b5.cell (p := ⟨w.heap.size, 0, none⟩) hz1).trans x0
  replace x1 : W5.cell? ⟨w.heap.size, 1, none⟩ = some (.slice D1 d1.length q1) := (b5.cell (p := ⟨w.heap.size, 1, none⟩) hz1).trans x1
  replace hz1 := Nat.lt_of_lt_of_le hz1 b5.size
  replace Hr0 := Lib.hid (Hr0.out.below b5)
  replace Hu1 := Lib.hid (Hu1.out.below b5)
  replace B := Lib.hid (B.out.trans (b5.mono B.out.size))
  clear b5
  go_wp2
  go_ret
  exact ⟨rfl, B.out⟩

set_option maxRecDepth 100000 in
set_option maxHeartbeats 1000000 in
theorem lifted (os : Os) (started : os.Started) (H : Type) (enc : TypeId × Value → H) :
    ReturnsInHanded {} Try.checked os 3 .any (Rows.arraySizesSpec.pre6 enc Try.prog Try.f3 Rows.arraySizesRow.domain false) (Rows.arraySizesSpec.post enc Try.prog Try.f3 false true false false) := by
  refine returnsInHanded_of_change (C := Try.checked) lawOwn started (by kernel_rfl) Try.func3
    (ChangeSpec.witness6 (enc := enc) (C := Try.checked) false ⟨#[], #[.slice none 0 0, .agg #[.slice none 0 0, .slice none 0 0]], []⟩ 8 (by kernel_rfl) (by kernel_rfl) (by kernel_rfl) (by kernel_rfl)) ?_
  intro W base args ds gs before hval0 hW hcnd _
  have hval : ∀ (j : Nat) t v, Try.f3.params[j]? = some t → args[j]? = some v → Value.okWide Try.prog W .any base t v := hval0
  have hW' := hW
  obtain ⟨p, q, hA0, hV, rfl, hfz, hnd⟩ := hW
  have hA : DataW.TrodAll enc Try.prog W 0 (fun _ => true) true Try.f3.params.toList args.toList ds p := hA0
  rw [Try.params3] at hA hval
  obtain ⟨rfl, rfl⟩ := trodVars_none hV
  simp only [List.append_nil] at hW'
  obtain ⟨v0, vs0, x0, ds0, pp0, qq0, hargs, rfl, hp, h0, z0⟩ := trodAll_cons hA
  obtain ⟨v1, vs1, x1, ds1, pp1, qq1, rfl, rfl, rfl, h1, z1⟩ := trodAll_cons z0
  obtain ⟨rfl, rfl, rfl⟩ := trodAll_nil z1
  obtain rfl : args = #[v0, v1] := by cases args; simp_all
  have hback := fun (W' : World) (hg : Below W.heap.size W W') (sp : Nat → Bool) (hs : ∀ q ∈ p, sp q.block = true) => lawArgsB hg (sp := sp) (by kernel_rfl) hA (fun q hq => hW'.lt q hq) hs
  obtain ⟨xx0, yy0, kk0, rfl⟩ := okWide_slice Try.underlying22 (hval 0 22 v0 rfl rfl)
  obtain ⟨fu0, hf0⟩ := h0
  obtain ⟨A0, a0, k0, e0, r0, m0⟩ := open_nums hf0
  simp [Value.cells] at e0
  obtain ⟨rfl, rfl, rfl⟩ := e0
  obtain ⟨c1_0, c1_1, y1_0, y1_1, mm1, rfl, _, _, hy1_0, hy1_1⟩ := open_agg2 Try.underlying24 (by kernel_rfl) cells_array (hval 1 24 v1 rfl rfl) h1
  obtain ⟨A1_0, a1_0, k1_0, e1_0, r1_0, m1_0⟩ := open_nums hy1_0
  simp at e1_0
  subst e1_0
  obtain ⟨A1_1, a1_1, k1_1, e1_1, r1_1, m1_1⟩ := open_nums hy1_1
  simp at e1_1
  subst e1_1
  refine (walk _ _ _ _ _ _ _ _ _ W r0 (len_of m0) (aru_of r1_0 r1_1 m1_0 m1_1)).mono fun e W' ⟨he, hg⟩ => ?_
  subst he
  exact ⟨_, rfl, lawPost (pa := p) (pv := []) hW' hg (List.append_nil _).symm (fun _ _ _ => (trodAll_cons_mk (shut_bool Try.underlying4 _) trodAll_mk0)) (fun sp hs => hback W' hg sp hs) (fun _ _ => rfl)
    (ok_one (by kernel_rfl) rfl (okWide_bool_mk Try.underlying4 _))⟩

theorem over : Rows.arraySizesRow.holds Try.pinned (OpenSpec.ofChange Rows.arraySizesSpec) :=
  OpenClaim.holds_of_wide 3 Try.f3 rfl rfl rfl rfl rfl rfl rfl ⟨rfl, rfl, rfl, rfl, rfl⟩ rfl rfl rfl rfl rfl (by kernel_rfl) Try.func3 (by kernel_rfl)
    (of_decide_eq_true (by kernel_rfl)) (by unfold Func.isWrapper; first | (rw [if_pos (by decide +kernel)]; kernel_rfl) | (rw [if_neg (by decide +kernel)]; exact ⟨rfl, rfl⟩))
    (fun os started H enc _ => lifted os started H enc)

/-- The statement. -/
theorem proved : Rows.ArraySizesSaid := over
end Go.Proofs.Ytedfjmidcljmoaa.arraySizes
