
/- Contracts: what is an array; places; the same numbers (layer 6). -/
import Derived.Test.YtedfjmidcljmoaaArrA
namespace Go.Proofs.Ytedfjmidcljmoaa
open Go.RowKit
set_option linter.unusedVariables false
theorem blw_draws {m : Nat} {u v : World} (k : Below m u v) (j : Nat) : Below m u (v.drewN j) := ⟨k.os, k.tape, k.output, k.size, k.block⟩
theorem ret_int {k : IntKind} {a b : Int} (h : a = b) : Ending.returned (.int k a) = .returned (.int k b) := by rw [h]
theorem ret_bool {a b : Bool} (h : a = b) : Ending.returned (.bool a) = .returned (.bool b) := by rw [h]
/-- An array that may be read. -/
structure ArU (w : World) (As : Option Addr) (ns cs : Nat) (Ad : Option Addr) (nd cd : Nat) (s d : List Int) : Prop where
  rs : RdA w As s
  rd : RdA w Ad d
  ls : s.length = ns
  ld : d.length = nd
  hs : ns ≤ cs
  hd : nd ≤ cd
  ms : cs ≤ 9223372036854775807
  md : cd ≤ 9223372036854775807
theorem ArU.below {w w' : World} {As Ad : Option Addr} {ns cs nd cd : Nat} {s d : List Int} (h : ArU w As ns cs Ad nd cd s d) (hb : Below w.heap.size w w') : ArU w' As ns cs Ad nd cd s d := ⟨h.rs.below hb, h.rd.below hb, h.ls, h.ld, h.hs, h.hd, h.ms, h.md⟩
theorem ArU.ms' {w : World} {As Ad : Option Addr} {ns cs nd cd : Nat} {s d : List Int} (h : ArU w As ns cs Ad nd cd s d) : ns ≤ maxLen := by
  have := h.hs; have := h.ms; unfold maxLen; omega
def BoolB (w : World) (v : Bool) (e : Ending) (w' : World) : Prop := e = .returned (.bool v) ∧ Below w.heap.size w w'

set_option maxHeartbeats 400000 in
theorem right_any (As : Option Addr) (ns cs : Nat) (Ad : Option Addr) (nd cd : Nat) (s d : List Int) (w : World) (h : ArU w As ns cs Ad nd cd s d) :
    Calls Try.prog 12 #[.agg #[.slice As ns cs, .slice Ad nd cd]] w (BoolB w (rightB s d)) := by
  have H := Lib.hid h
  have hm := h.hd
  have hm2 := h.md
  clear h
  by_cases ho : okA s
  · by_cases he : prodA s = d.length
    · have hz := Lib.hid (right_mk ho he)
      have hy := Lib.hid (sz_yes ho)
      have hq : ((nd : Int) == prodA s) = true := by rw [he, H.out.ld]; simp
      clear ho he
      go_enter Try.func12, Try.ntmps12
      go_wp2_with fail
      refine (size_any _ s _ _ _ ((H.out.below (Below.alloc (Below.refl _ _) (Nat.le_refl _) _)).rs) H.out.ls H.out.ms').mono ?_
      rintro e w' ⟨rfl, rfl⟩
      rw [hy.out]
      go_wp2
      go_ret
      exact ⟨by rw [hz.out] <;> rfl, (Below.refl _ _).alloc (Nat.le_refl _) _⟩
    · have hz := Lib.hid (right_no2 he)
      have hy := Lib.hid (sz_yes ho)
      have hq : ((nd : Int) == prodA s) = false := by
        rw [H.out.ld] at he
        simpa using fun e => he e.symm
      clear ho he
      go_enter Try.func12, Try.ntmps12
      go_wp2_with fail
      refine (size_any _ s _ _ _ ((H.out.below (Below.alloc (Below.refl _ _) (Nat.le_refl _) _)).rs) H.out.ls H.out.ms').mono ?_
      rintro e w' ⟨rfl, rfl⟩
      rw [hy.out]
      go_wp2
      go_ret
      exact ⟨by rw [hz.out] <;> rfl, (Below.refl _ _).alloc (Nat.le_refl _) _⟩
  · have hz := Lib.hid (right_no1 (d := d) ho)
    have hy := Lib.hid (sz_no ho)
    clear ho
    go_enter Try.func12, Try.ntmps12
    go_wp2_with fail
    refine (size_any _ s _ _ _ ((H.out.below (Below.alloc (Below.refl _ _) (Nat.le_refl _) _)).rs) H.out.ls H.out.ms').mono ?_
    rintro e w' ⟨rfl, rfl⟩
    rw [hy.out]
    go_wp2
    go_ret
    exact ⟨by rw [hz.out] <;> rfl, (Below.refl _ _).alloc (Nat.le_refl _) _⟩
set_option maxHeartbeats 400000 in
theorem refright_any (As : Option Addr) (ns cs : Nat) (Ad : Option Addr) (nd cd : Nat) (s d : List Int) (w : World) (h : ArU w As ns cs Ad nd cd s d) :
    Calls Try.prog 13 #[.agg #[.slice As ns cs, .slice Ad nd cd]] w (BoolB w (rightB s d)) := by
  have H := Lib.hid h
  have hm := h.hd
  have hm2 := h.md
  clear h
  by_cases ho : okA s
  · by_cases he : prodA s = d.length
    · have hz := Lib.hid (right_mk ho he)
      have hy := Lib.hid (sz_yes ho)
      have hq : (prodA s == (nd : Int)) = true := by rw [he, H.out.ld]; simp
      clear ho he
      go_enter Try.func13, Try.ntmps13
      go_wp2_with fail
      refine (refsize_any _ s _ _ _ ((H.out.below (Below.alloc (Below.refl _ _) (Nat.le_refl _) _)).rs) H.out.ls H.out.ms').mono ?_
      rintro e w' ⟨rfl, rfl⟩
      rw [hy.out]
      go_wp2
      go_ret
      exact ⟨by rw [hz.out] <;> rfl, (Below.refl _ _).alloc (Nat.le_refl _) _⟩
    · have hz := Lib.hid (right_no2 he)
      have hy := Lib.hid (sz_yes ho)
      have hq : (prodA s == (nd : Int)) = false := by
        rw [H.out.ld] at he
        simpa using he
      clear ho he
      go_enter Try.func13, Try.ntmps13
      go_wp2_with fail
      refine (refsize_any _ s _ _ _ ((H.out.below (Below.alloc (Below.refl _ _) (Nat.le_refl _) _)).rs) H.out.ls H.out.ms').mono ?_
      rintro e w' ⟨rfl, rfl⟩
      rw [hy.out]
      go_wp2
      go_ret
      exact ⟨by rw [hz.out] <;> rfl, (Below.refl _ _).alloc (Nat.le_refl _) _⟩
  · have hz := Lib.hid (right_no1 (d := d) ho)
    have hy := Lib.hid (sz_no ho)
    clear ho
    go_enter Try.func13, Try.ntmps13
    go_wp2_with fail
    refine (refsize_any _ s _ _ _ ((H.out.below (Below.alloc (Below.refl _ _) (Nat.le_refl _) _)).rs) H.out.ls H.out.ms').mono ?_
    rintro e w' ⟨rfl, rfl⟩
    rw [hy.out]
    go_wp2
    go_ret
    exact ⟨by rw [hz.out] <;> rfl, (Below.refl _ _).alloc (Nat.le_refl _) _⟩

/-- The same numbers. -/
def eqA (a b : List Int) : Bool := decide (a = b)
theorem eq_len {a b : List Int} (h : ¬ a.length = b.length) : eqA a b = false := by
  unfold eqA; exact decide_eq_false fun e => h (by rw [e])
theorem eq_not {a b : List Int} {k : Nat} (h : ¬ ith a k = ith b k) : eqA a b = false := by
  unfold eqA; exact decide_eq_false fun e => h (by rw [e])
theorem eq_yes {a b : List Int} (hl : a.length = b.length) (h : ∀ k, k < a.length → ith a k = ith b k) : eqA a b = true := by
  unfold eqA; exact decide_eq_true (ith_ext hl h)
theorem eq_self (a : List Int) : eqA a a = true := by unfold eqA; simp
def BoolQ (w : World) (v : Bool) (e : Ending) (w' : World) : Prop := e = .returned (.bool v) ∧ ∃ n, w' = w.drewN n
theorem BoolQ.b {w w' : World} {v : Bool} {e : Ending} (h : BoolQ w v e w') : BoolB w v e w' := by
  obtain ⟨rfl, n, rfl⟩ := h
  exact ⟨rfl, blw_draws (Below.refl _ _) n⟩
set_option maxHeartbeats 1000000 in
theorem ints_any (A : Option Addr) (n c : Nat) (B : Option Addr) (m d : Nat) (a b : List Int) (w : World) (h : RdA w A a) (g : RdA w B b) (hn : a.length = n) (hm : b.length = m) (ln : n ≤ 9223372036854775807) (lm : m ≤ 9223372036854775807) :
    Calls Try.prog 18 #[.slice A n c, .slice B m d] w (BoolQ w (eqA a b)) := by
  have H := Lib.hid h
  have G := Lib.hid g
  have HN := Lib.hid hn
  have HM := Lib.hid hm
  clear h g hn hm
  by_cases hl : n = m
  · subst hl
    go_enter Try.func18, Try.ntmps18
    go_wp2
    go_loopw [5] (fun i wr => ∃ (k q : Nat), k ≤ n ∧ i = .int .i64 k ∧ (∀ j, j < k → ith a j = ith b j) ∧ wr = w.drewN q) (fun i _ => n - (intOf i).toNat)
    case atStart => exact ⟨0, 0, by omega, rfl, fun j hj => by omega, rfl⟩
    case round =>
      obtain ⟨k, q, hk, rfl, hok, rfl⟩ := hrel
      have HK := Lib.hid hok
      clear hok
      by_cases hlt : k < n
      · obtain ⟨b1, o1, rfl, hb1, c1⟩ := H.out.at_ (show k < a.length by rw [HN.out]; exact hlt)
        obtain ⟨b2, o2, rfl, hb2, c2⟩ := G.out.at_ (show k < b.length by rw [HM.out]; exact hlt)
        obtain ⟨x, hx⟩ : ∃ x, x = ith a k := ⟨_, rfl⟩
        obtain ⟨y, hy⟩ : ∃ y, y = ith b k := ⟨_, rfl⟩
        rw [← hx] at c1
        rw [← hy] at c2
        have HX := Lib.hid hx
        have HY := Lib.hid hy
        clear hx hy
        by_cases he : x = y
        · subst he
          go_wp2
          go_quiet (fail)
          go_wp2
          go_roundw
          case rel => exact ⟨k + 1, _, by omega, by go_num, fun j hj => by
              rcases Nat.lt_or_ge j k with h3 | h3
              · exact HK.out j h3
              · obtain rfl : j = k := by omega
                rw [← HX.out, ← HY.out], rfl⟩
          case measure => simp [intOf]; omega
        · have hz := Lib.hid (eq_not (k := k) (a := a) (b := b) (by rw [← HX.out, ← HY.out]; exact he))
          have h1 : (x != y) = true := by simpa using he
          clear he
          go_wp2
          go_quiet (fail)
          go_wp2
          go_ret
          exact ⟨by rw [hz.out] <;> rfl, _, World.drewN_drewN _ _ _⟩
      · obtain rfl : k = n := by omega
        have hz := Lib.hid (eq_yes (a := a) (b := b) (by rw [HN.out, HM.out]) (fun j hj => HK.out j (by rw [HN.out] at hj; exact hj)))
        go_wp2
        go_ret
        exact ⟨by rw [hz.out] <;> rfl, _, rfl⟩
  · have hz := Lib.hid (eq_len (a := a) (b := b) (by rw [HN.out, HM.out]; exact hl))
    go_enter Try.func18, Try.ntmps18
    go_wp2
    go_ret
    exact ⟨by rw [hz.out] <;> rfl, 0, rfl⟩
end Go.Proofs.Ytedfjmidcljmoaa
