/- Layer 4, put together: ShwB1, ShwB2, ShwB3, ShwB4. -/
import Derived.Test.YtbapgdhcbfpdoaaGreatDoorYSo
import Derived.Test.YtbapgdhcbfpdoaaGreatDoorYSg
/- What is read, as a program that is handed on. -/
namespace Go.Proofs.YtbapgdhcbfpdoaaGreatDoor
open Go.RowKit
set_option linter.unusedVariables false
theorem NumU.of {w : World} {A : Option Addr} {ns : List Int} (h : RdN w (fun j => j < w.heap.size) A ns) : NumU w A ns := fun hl => by
  obtain ⟨b, o, e, ⟨h1, _⟩, h2⟩ := h hl
  exact ⟨b, o, e, h1, h2⟩
theorem ItsU.of {w : World} {A : Option Addr} {l : List It} (h : RdIt w A l) : ItsU w A l := fun hl => by
  obtain ⟨b, o, e, ⟨h1, _⟩, h2⟩ := h hl
  refine ⟨b, o, e, h1, fun i hi => ?_⟩
  obtain ⟨a0, a1, a2, a3, A1, c1, a4, a6⟩ := h2 i hi
  exact ⟨a0, a1, a2, a3, A1, c1, a4, trivial, NumU.of a6⟩
theorem PU.of {w : World} {Ai Al : Option Addr} {p : Pg} (h : PR w Ai Al p) : PU w Ai Al p :=
  ⟨fun hl => by
    obtain ⟨g, e, hg, hc⟩ := h.lns hl
    refine ⟨g, 0, e, hg, fun i hi => ?_⟩
    obtain ⟨a0, a1, A1, c1, a2, a3, a4⟩ := hc i hi
    rw [Nat.zero_add]
    exact ⟨a0, a1, A1, c1, a2, a3, ItsU.of a4⟩,
   fun hl => by
    obtain ⟨g, e, hg, hc⟩ := h.ins hl
    refine ⟨g, 0, e, hg, fun i hi => ?_⟩
    obtain ⟨a0, a1, A1, c1, a2, a3, a4⟩ := hc i hi
    rw [Nat.zero_add]
    exact ⟨a0, a1, A1, c1, a2, a3, SdU.of a4⟩⟩
theorem itB_of {x : It} (h : ItOk x) (hs : Sm 70000 x) (hr : ∀ n ∈ x.ns, rng n) : ItB x := by
  have hh : 1 ≤ x.how ∧ x.how ≤ 7 ∧ 0 ≤ x.fn ∧ x.fn ≤ 255 := by
    rcases h with h | h | h
    · omega
    · omega
    · have h1 := h.1
      unfold isM isD at h1
      omega
  exact ⟨⟨by omega, by omega⟩, ⟨hh.2.2.1, hh.2.2.2⟩, by have := hs.2; omega, hr, by have := hs.1; omega⟩
theorem read_pgb {l : List UInt8} {q : Pg} (h : parseR l = .ok q) : PgB q := by
  obtain ⟨h1, _⟩ := pz_flat h
  have h2 := pz_bd h
  have h3 := pz_rng h
  have h4 := h1.cnt
  exact ⟨fun m hm => ⟨by have := (h2.ins m hm).1; omega, fun d hd => ⟨by have := (h2.ins m hm).2 d hd; omega, h3.2 m hm d hd⟩, by have := (h1.ins m hm).2; omega⟩,
    fun m hm => ⟨by have := (h2.its m hm).1; omega, fun x hx => itB_of ((h1.its m hm).2 x hx) ((h2.its m hm).2.2 x hx) (h3.1 m hm x hx), by have := (h2.its m hm).2.1; omega⟩, by omega, by omega⟩
theorem read_pa {w : World} {l : List UInt8} {q : Pg} (h : parseR l = .ok q) {Ai Al : Option Addr} {n ci m cl : Nat} (hn : q.ins.length = n) (hm : q.lns.length = m) (hr : PR w Ai Al q) (h1 : n ≤ ci) (h2 : m ≤ cl) : PA w q Ai Al n ci m cl :=
  ⟨hn, hm, PU.of hr, read_pgb h, h1, h2, by have := (pz_flat h).1.cnt; omega⟩
/-- Nothing, as a program. -/
theorem pa_none (w : World) : PA w ⟨[], []⟩ none none 0 0 0 0 :=
  ⟨rfl, rfl, PU.empty w none none, ⟨fun _ h => (by cases h), fun _ h => (by cases h), Nat.zero_le _, Nat.zero_le _⟩, Nat.le_refl _, Nat.le_refl _, by decide⟩
end Go.Proofs.YtbapgdhcbfpdoaaGreatDoor
/- Contract of the laws' head: an example. -/
namespace Go.Proofs.YtbapgdhcbfpdoaaGreatDoor
open Go.RowKit
set_option linter.unusedVariables false
theorem two_up2 {w w1 w2 : World} (h : Below w.heap.size w w1) (g : Below w1.heap.size w1 w2) : Below w.heap.size w w2 := h.trans (g.mono h.size)
def pg5 : Pg := ⟨[], [⟨[], 0, [⟨1, 6, 0, [], [1]⟩, ⟨2, 10, 0, [120], []⟩, ⟨1, 12, 0, [], [2]⟩, ⟨4, 11, 3, [], []⟩, ⟨4, 8, 1, [], []⟩, ⟨1, 20, 0, [], [3]⟩, ⟨7, 15, 6, [], []⟩]⟩]⟩
theorem read5 : parseR [111, 117, 116, 32, 40, 40, 49, 41, 43, 40, 120, 42, 50, 41, 41, 109, 105, 110, 46, 40, 51, 41] = .ok pg5 := by rw [← parseF_eq (by decide)]; rfl
theorem dig1 (n : Nat) (h : n < 10) : digs (n : Int) = [UInt8.ofNat (48 + n)] := by
  unfold digs
  rw [if_neg (by omega), Int.natAbs_natCast, Lib.decDigits_one h]
theorem textP5 : textP pg5 = some [111, 117, 116, 32, 40, 49, 32, 43, 32, 120, 32, 42, 32, 50, 41, 32, 109, 105, 110, 46, 32, 51, 10] := by
  have h1 : digs 1 = [49] := dig1 1 (by decide)
  have h2 : digs 2 = [50] := dig1 2 (by decide)
  have h3 : digs 3 = [51] := dig1 3 (by decide)
  have o1 : opdP ⟨1, 6, 0, [], [1]⟩ = ⟨[49], true, 1, 0⟩ := by unfold opdP; simp [numsT, h1]
  have o2 : opdP ⟨1, 12, 0, [], [2]⟩ = ⟨[50], true, 1, 0⟩ := by unfold opdP; simp [numsT, h2]
  have o3 : opdP ⟨1, 20, 0, [], [3]⟩ = ⟨[51], true, 1, 0⟩ := by unfold opdP; simp [numsT, h3]
  have hr : runP (pg5.lns.getD 0 default).its [] = some [⟨[40, 49, 32, 43, 32, 120, 32, 42, 32, 50, 41, 32, 109, 105, 110, 46, 32, 51], false, 10, 1⟩] := by
    show (stepP [] ⟨1, 6, 0, [], [1]⟩).bind (runP [⟨2, 10, 0, [120], []⟩, ⟨1, 12, 0, [], [2]⟩, ⟨4, 11, 3, [], []⟩, ⟨4, 8, 1, [], []⟩, ⟨1, 20, 0, [], [3]⟩, ⟨7, 15, 6, [], []⟩]) = _
    rw [show stepP [] ⟨1, 6, 0, [], [1]⟩ = some [⟨[49], true, 1, 0⟩] by unfold stepP; rw [if_pos (.inl rfl), o1]; rfl, Option.bind_some]
    show (stepP [⟨[49], true, 1, 0⟩] ⟨2, 10, 0, [120], []⟩).bind (runP [⟨1, 12, 0, [], [2]⟩, ⟨4, 11, 3, [], []⟩, ⟨4, 8, 1, [], []⟩, ⟨1, 20, 0, [], [3]⟩, ⟨7, 15, 6, [], []⟩]) = _
    rw [show stepP [⟨[49], true, 1, 0⟩] ⟨2, 10, 0, [120], []⟩ = some [⟨[120], true, 1, 0⟩, ⟨[49], true, 1, 0⟩] by rfl, Option.bind_some]
    show (stepP [⟨[120], true, 1, 0⟩, ⟨[49], true, 1, 0⟩] ⟨1, 12, 0, [], [2]⟩).bind (runP [⟨4, 11, 3, [], []⟩, ⟨4, 8, 1, [], []⟩, ⟨1, 20, 0, [], [3]⟩, ⟨7, 15, 6, [], []⟩]) = _
    rw [show stepP [⟨[120], true, 1, 0⟩, ⟨[49], true, 1, 0⟩] ⟨1, 12, 0, [], [2]⟩ = some [⟨[50], true, 1, 0⟩, ⟨[120], true, 1, 0⟩, ⟨[49], true, 1, 0⟩] by unfold stepP; rw [if_pos (.inl rfl), o2]; rfl, Option.bind_some]
    show (stepP [⟨[50], true, 1, 0⟩, ⟨[120], true, 1, 0⟩, ⟨[49], true, 1, 0⟩] ⟨4, 11, 3, [], []⟩).bind (runP [⟨4, 8, 1, [], []⟩, ⟨1, 20, 0, [], [3]⟩, ⟨7, 15, 6, [], []⟩]) = _
    rw [show stepP [⟨[50], true, 1, 0⟩, ⟨[120], true, 1, 0⟩, ⟨[49], true, 1, 0⟩] ⟨4, 11, 3, [], []⟩ = some [⟨[120, 32, 42, 32, 50], false, 3, 0⟩, ⟨[49], true, 1, 0⟩] by rfl, Option.bind_some]
    show (stepP [⟨[120, 32, 42, 32, 50], false, 3, 0⟩, ⟨[49], true, 1, 0⟩] ⟨4, 8, 1, [], []⟩).bind (runP [⟨1, 20, 0, [], [3]⟩, ⟨7, 15, 6, [], []⟩]) = _
    rw [show stepP [⟨[120, 32, 42, 32, 50], false, 3, 0⟩, ⟨[49], true, 1, 0⟩] ⟨4, 8, 1, [], []⟩ = some [⟨[49, 32, 43, 32, 120, 32, 42, 32, 50], false, 5, 0⟩] by rfl, Option.bind_some]
    show (stepP [⟨[49, 32, 43, 32, 120, 32, 42, 32, 50], false, 5, 0⟩] ⟨1, 20, 0, [], [3]⟩).bind (runP [⟨7, 15, 6, [], []⟩]) = _
    rw [show stepP [⟨[49, 32, 43, 32, 120, 32, 42, 32, 50], false, 5, 0⟩] ⟨1, 20, 0, [], [3]⟩ = some [⟨[51], true, 1, 0⟩, ⟨[49, 32, 43, 32, 120, 32, 42, 32, 50], false, 5, 0⟩] by unfold stepP; rw [if_pos (.inl rfl), o3]; rfl, Option.bind_some]
    rfl
  have he : exprP (pg5.lns.getD 0 default).its 1 = some [40, 49, 32, 43, 32, 120, 32, 42, 32, 50, 41, 32, 109, 105, 110, 46, 32, 51] := by
    unfold exprP
    rw [if_neg (by decide), hr]
    rfl
  show (if 64 < 1 then none else (some []).bind fun t => ((if ([] : List UInt8) = [] then (exprP (pg5.lns.getD 0 default).its 1).map fun t => [111, 117, 116, 32] ++ t ++ [10] else none)).map fun u => t ++ u) = _
  rw [he]
  rfl
theorem show5 : showP pg5 = ([111, 117, 116, 32, 40, 49, 32, 43, 32, 120, 32, 42, 32, 50, 41, 32, 109, 105, 110, 46, 32, 51, 10], 0) := by
  unfold showP; rw [textP5]; rfl
theorem right5 : rightP pg5 = true := by unfold rightP; rw [textP5]; rfl
end Go.Proofs.YtbapgdhcbfpdoaaGreatDoor
/- Contract of the laws' head: an example; the programs of one's own boxes. -/
namespace Go.Proofs.YtbapgdhcbfpdoaaGreatDoor
open Go.RowKit
set_option linter.unusedVariables false
set_option maxRecDepth 100000
set_option maxHeartbeats 3200000 in
theorem shown5_any (w : World) (hL : LaidP w) : Calls Tryz.prog 6 #[] w fun e w' => e = .returned (.bool true) ∧ Below w.heap.size w w' := by
  have hq := fun a e b f w => eqF a e b f w
  go_enter Tryz.func6, Tryz.ntmps6
  go_wp2_with fail
  refine (parse_is ⟨#[111, 117, 116, 32, 40, 40, 49, 41, 43, 40, 120, 42, 50, 41, 41, 109, 105, 110, 46, 40, 51, 41]⟩ _ pg5 0 1 read5 rfl rfl hL (by decide)).mono ?_
  rintro e W1 ⟨Ai1, ci1, Al1, cl1, rfl, hr, hb, hci, hcl⟩
  have HB1 := Lib.hid (two_up2 hb (pfw_bel W1 Ai1 0 ci1 Al1 1 cl1 0 0))
  have HP1 := Lib.hid ((read_pa read5 rfl rfl hr hci hcl).below (pfw_bel W1 Ai1 0 ci1 Al1 1 cl1 0 0))
  have HF1 := Lib.hid (PFAt.new W1 Ai1 0 ci1 Al1 1 cl1 0 0)
  clear hr hb
  obtain ⟨V1, hV1⟩ : ∃ V, V = pfW W1 Ai1 0 ci1 Al1 1 cl1 0 0 := ⟨_, rfl⟩
  have hE1 : (W1.alloc (.cells #[.slice Ai1 0 ci1, .slice Al1 1 cl1] 25)).alloc (.cells #[.int .i64 0, .int .i64 0] 41) = V1 := hV1.symm
  rw [← hV1] at HB1 HP1 HF1
  have HE1 := Lib.hid hE1
  clear hE1 hV1
  go_wp2_with fail
  rw [HE1.out]
  refine (show5_any V1 pg5 Ai1 Al1 0 ci1 1 cl1 (hL.below HB1.out) HP1.out).mono ?_
  rintro e W2 ⟨rfl, b2⟩
  rw [show5]
  have B2 := Lib.hid (two_up2 HB1.out b2)
  have P2 := Lib.hid (HP1.out.below b2)
  have F2 := Lib.hid (HF1.out.below b2)
  clear b2
  go_wp2_with fail
  refine (show5_any W2 ⟨[], []⟩ none none 0 0 0 0 (hL.below B2.out) (pa_none W2)).mono ?_
  rintro e W3 ⟨rfl, b3⟩
  have B3 := Lib.hid (two_up2 B2.out b3)
  have P3 := Lib.hid (P2.out.below b3)
  obtain ⟨f0, f1, f2, f3, f4⟩ := F2.out.below b3
  have hs := cmpYes (w := [111, 117, 116, 32, 40, 49, 32, 43, 32, 120, 32, 42, 32, 50, 41, 32, 109, 105, 110, 46, 32, 51, 10]) rfl
  rw [show (showP ⟨[], []⟩).2 = 50 from rfl]
  clear b3
  go_wp2_with fail
  refine (right5_any W3 pg5 Ai1 Al1 0 ci1 1 cl1 (hL.below B3.out) P3.out).mono ?_
  rintro e W4 ⟨rfl, b4⟩
  rw [right5]
  have B4 := Lib.hid (two_up2 B3.out b4)
  clear b4 f0 f1 f2 f3 f4
  go_wp2
  go_ret
  exact ⟨rfl, B4.out⟩
end Go.Proofs.YtbapgdhcbfpdoaaGreatDoor
/- Programs in boxes of one's own, for the laws' walks. -/
namespace Go.Proofs.YtbapgdhcbfpdoaaGreatDoor
open Go.RowKit
set_option linter.unusedVariables false
/-- A program in a box, and what stands. -/
structure BP (w : World) (k : Nat) (p : Pg) (Ai : Option Addr) (n ci : Nat) (Al : Option Addr) (m cl : Nat) (W : World) : Prop where
  c0 : W.cell? ⟨k, 0, none⟩ = some (.slice Ai n ci)
  c1 : W.cell? ⟨k, 1, none⟩ = some (.slice Al m cl)
  lt : k < W.heap.size
  bel : Below w.heap.size w W
  la : LaidP W
  pa : PA W p Ai Al n ci m cl
theorem BP.next {w W W' : World} {k : Nat} {p : Pg} {Ai : Option Addr} {n ci : Nat} {Al : Option Addr} {m cl : Nat} (h : BP w k p Ai n ci Al m cl W) (b : Below W.heap.size W W') : BP w k p Ai n ci Al m cl W' :=
  ⟨(cell_below b h.lt _).trans h.c0, (cell_below b h.lt _).trans h.c1, Nat.lt_of_lt_of_le h.lt b.size, two_up2 h.bel b, h.la.below b, h.pa.below b⟩
theorem BP.start {w : World} {p : Pg} {Ai : Option Addr} {n ci : Nat} {Al : Option Addr} {m cl : Nat} (hL : LaidP w) (h : PA w p Ai Al n ci m cl) : BP w w.heap.size p Ai n ci Al m cl (w.alloc (pgC Ai n ci Al m cl)) := by
  have hb : Below w.heap.size w (w.alloc (pgC Ai n ci Al m cl)) := (Below.refl _ _).alloc (Nat.le_refl _) _
  have e := heap_alloc_new w (pgC Ai n ci Al m cl)
  refine ⟨?_, ?_, by simp, hb, hL.below hb, h.below hb⟩ <;> · rw [cell_of_row _ _ _ _ _ _ e]; rfl
/-- What is read, in a box. -/
theorem BP.read {w0 W : World} {l : List UInt8} {q : Pg} (h : parseR l = .ok q) {Ai Al : Option Addr} {n ci m cl : Nat} (hn : q.ins.length = n) (hm : q.lns.length = m) (hr : PR W Ai Al q) (h1 : n ≤ ci) (h2 : m ≤ cl) (hb : Below w0.heap.size w0 W) (hL : LaidP W) :
    BP w0 W.heap.size q Ai n ci Al m cl (pfW W Ai n ci Al m cl 0 0) := by
  obtain ⟨f0, f1, _, _, f4⟩ := PFAt.new W Ai n ci Al m cl 0 0
  have hu := pfw_bel W Ai n ci Al m cl 0 0
  exact ⟨f0, f1, by omega, two_up2 hb hu, hL.below hu, (read_pa h hn hm hr h1 h2).below hu⟩
/-- Nothing, in a box. -/
theorem BP.none {w0 W : World} {Ai Al : Option Addr} {ci cl : Nat} {a c : Int} (hb : Below w0.heap.size w0 W) (hL : LaidP W) :
    BP w0 W.heap.size ⟨[], []⟩ Ai 0 ci Al 0 cl (pfW W Ai 0 ci Al 0 cl a c) := by
  obtain ⟨f0, f1, _, _, f4⟩ := PFAt.new W Ai 0 ci Al 0 cl a c
  have hu := pfw_bel W Ai 0 ci Al 0 cl a c
  exact ⟨f0, f1, by omega, two_up2 hb hu, hL.below hu, ⟨rfl, rfl, PU.empty _ _ _, ⟨fun _ h => (by cases h), fun _ h => (by cases h), Nat.zero_le _, Nat.zero_le _⟩, Nat.zero_le _, Nat.zero_le _, by decide⟩⟩
end Go.Proofs.YtbapgdhcbfpdoaaGreatDoor
