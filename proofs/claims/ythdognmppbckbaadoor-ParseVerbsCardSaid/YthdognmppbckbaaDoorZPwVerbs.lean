/- The walk of ParseVerbs. -/
import Derived.Test.YthdognmppbckbaaDoorZPj
namespace Go.Proofs.YthdognmppbckbaaDoor.parseVerbs
open Go.RowKit
set_option linter.unusedVariables false

set_option maxHeartbeats 1600000 in
theorem walk (s : ByteArray) (hs : s.size ≤ 140737488355320) (two : Bool) (w : World) (hL : LaidP w) : Calls Tryd.prog 4 #[.string s, .bool two] w fun e w' => e = .returned (.bool true) ∧ Below w.heap.size w w' := by
  have hv := fun W (h : LaidP W) => show Calls Tryd.prog 15 #[.string s, .bool two] W (VerbRes W s.data.toList two) by
    cases two
    · exact verb_false s W h.2
    · exact verb_true s W h.2
  unfold VerbRes at hv
  have hr := fun W => rverb_any s.data.toList two W
  have hn := fun W (h : LaidP W) => name_any s W h hs
  have hm := fun W => rname_any s.data.toList W (by rw [len_s]; exact hs)
  rw [bs_of] at hr hm
  obtain ⟨n, h1⟩ : ∃ n, n = verbR s.data.toList two := ⟨_, rfl⟩
  obtain ⟨b, h2⟩ : ∃ b, b = nameB s.data.toList := ⟨_, rfl⟩
  rw [← h1] at hv hr
  rw [← h2] at hn hm
  clear h1 h2
  obtain ⟨c, h3⟩ : ∃ c, c = (n != 0) := ⟨_, rfl⟩
  rw [← h3] at hv hr
  clear h3
  have HV := Lib.hid hv
  have HR := Lib.hid hr
  have HN := Lib.hid hn
  have HM := Lib.hid hm
  clear hv hr hn hm
  cases b <;> cases c <;>
  · go_enter Tryd.func4, Tryd.ntmps4
    go_wp2_with (first
      | (go_at_call 11; refine (shown4_any _ hL).mono ?_; rintro e W1 ⟨rfl, b1⟩; have B1 := Lib.hid b1; clear b1)
      | (go_at_call 15; with_reducible refine (HV.out _ (hL.below B1.out)).mono ?_; rintro e W2 ⟨rfl, g2⟩; have B2 := Lib.hid (up2 B1.out g2.below); clear g2)
      | (go_at_call 16; with_reducible refine (HR.out _).mono ?_; rintro e w3 ⟨rfl, e3⟩; subst e3)
      | (go_at_call 17; refine (HN.out _ (hL.below B2.out)).mono ?_; rintro e W4 ⟨rfl, g4⟩; have B4 := Lib.hid (up2 B2.out g4); clear g4)
      | (go_at_call 18; refine (HM.out _).mono ?_; rintro e W5 ⟨rfl, g5⟩; have B5 := Lib.hid (up2 B4.out g5); clear g5))
    go_ret
    exact ⟨rfl, B5.out⟩
end Go.Proofs.YthdognmppbckbaaDoor.parseVerbs
