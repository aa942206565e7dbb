/- Contracts of package lex: sign, idle. -/
import Derived.Test.YtphcjpomneejmaaDoorLexC
namespace Go.Proofs.YtphcjpomneejmaaDoor
open Go.RowKit

theorem pre_any (s : ByteArray) (p : ByteArray) (x : Bool) (w : World) (h : Lib.hasPrefix s.data.toList p.data.toList = x) : Calls Tryd.prog 33 #[.string s, .string p] w fun e w' => e = .returned (.bool x) ∧ w' = w :=
  (Tryd.hasPrefix s p w).mono fun e w' ⟨he, hw⟩ => ⟨by rw [he, h], hw⟩
set_option maxHeartbeats 2000000 in
theorem sign_two (b : UInt8) (r : List UInt8) (s : ByteArray) (w : World) (hs : s.size ≤ 140737488355328) (hl : s.data.toList = b :: r) (hb : b.toNat = 60 ∨ b.toNat = 62) (hr : r.head? = some 61) : Calls Tryd.prog 21 #[.string s] w (Answers w (signR b r)) := by
  have hx := Lib.hid (show signR b r = ((⟨3, 0, [b, 61], 0⟩ : Tk), (2 : Int), (0 : Int)) by unfold signR; rw [if_pos ⟨hb, hr⟩])
  have h0 : 0 < s.size := by rw [← len_s, hl]; simp
  have hg : s[0] = b := by rw [← get_s s 0 h0, hl]; rfl
  obtain ⟨r1, rfl⟩ : ∃ r1, r = 61 :: r1 := by
    cases r with
    | nil => simp at hr
    | cons c r1 => simp at hr; exact ⟨r1, by rw [hr]⟩
  have hsz : 2 ≤ s.size := by rw [← len_s, hl]; simp
  have hq := show s.extract 0 2 = bs [b, 61] from bs_eq (by rw [ext_list, hl]; simp)
  have hz := Lib.hid hr
  rcases hb with hb | hb
  · obtain rfl : b = 60 := UInt8.toNat_inj.1 hb
    have h1 : Lib.hasPrefix s.data.toList (⟨#[60, 61]⟩ : ByteArray).data.toList = true := by rw [hl]; simp [Lib.hasPrefix]
    have HL := Lib.hid hl
    clear hl hb hr
    go_enter Tryd.func21, Tryd.ntmps21
    go_wp2_with (first | (go_at_call 33; refine (pre_any _ ⟨#[60, 61]⟩ _ _ h1).mono ?_; rintro e w' ⟨rfl, rfl⟩) | (go_at_call 24; refine (clone_any (bs [60, 61]) _ (by decide)).mono ?_; rintro e w' ⟨rfl, hb1⟩; obtain ⟨hc, hf⟩ := bcell hb1))
    exact bodyPost_ret (v := .tuple #[.agg #[.int .i64 3, .int .i64 0, .string (bs [60, 61]), .int .i64 0], .int .i64 2, .int .i64 0]) (by simp [results, Tryd.results21, go_sem, hc]) rfl (tok_ret (t := ⟨3, 0, [60, 61], 0⟩) hx.out rfl (bset4 (((Below.refl _ _).alloc (Nat.le_refl _) _).trans (hb1.mono (by simp))) (Nat.le_refl _) _ _ _ _))
  · obtain rfl : b = 62 := UInt8.toNat_inj.1 hb
    have h1 : Lib.hasPrefix s.data.toList (⟨#[60, 61]⟩ : ByteArray).data.toList = false := by rw [hl]; rfl
    have h2 : Lib.hasPrefix s.data.toList (⟨#[62, 61]⟩ : ByteArray).data.toList = true := by rw [hl]; simp [Lib.hasPrefix]
    have HL := Lib.hid hl
    clear hl hb hr
    go_enter Tryd.func21, Tryd.ntmps21
    go_wp2_with (first | (go_at_call 33; refine (pre_any _ ⟨#[60, 61]⟩ _ _ h1).mono ?_; rintro e w' ⟨rfl, rfl⟩) | (go_at_call 33; refine (pre_any _ ⟨#[62, 61]⟩ _ _ h2).mono ?_; rintro e w' ⟨rfl, rfl⟩) | (go_at_call 24; refine (clone_any (bs [62, 61]) _ (by decide)).mono ?_; rintro e w' ⟨rfl, hb1⟩; obtain ⟨hc, hf⟩ := bcell hb1))
    exact bodyPost_ret (v := .tuple #[.agg #[.int .i64 3, .int .i64 0, .string (bs [62, 61]), .int .i64 0], .int .i64 2, .int .i64 0]) (by simp [results, Tryd.results21, go_sem, hc]) rfl (tok_ret (t := ⟨3, 0, [62, 61], 0⟩) hx.out rfl (bset4 (((Below.refl _ _).alloc (Nat.le_refl _) _).trans (hb1.mono (by simp))) (Nat.le_refl _) _ _ _ _))

theorem pre_not {l : List UInt8} {b c : UInt8} {r : List UInt8} (hl : l = b :: r) (h : ¬ (b = c ∧ r.head? = some 61)) : Lib.hasPrefix l [c, 61] = false := by
  subst hl
  unfold Lib.hasPrefix
  cases r with
  | nil => simp [List.isPrefixOf]
  | cons d r =>
    by_cases h1 : c = b
    · have : ¬ d = 61 := fun e => h ⟨h1.symm, by rw [e]; rfl⟩
      have h2 : ¬ 61 = d := fun e => this e.symm
      simp [List.isPrefixOf, h2]
    · simp [List.isPrefixOf, h1]
theorem one_of {c : UInt8} {k : Int} (h : ((c.toNat : Int) == k) = true) (hk : (signs.any fun n => (n : Int) == k) = true) : oneB c = true := by
  obtain ⟨n, hn, e⟩ := List.any_eq_true.1 hk
  have e1 := eq_of_beq h
  have e2 := eq_of_beq e
  have e3 : c.toNat = n := by omega
  unfold oneB; rw [e3]; simpa using hn
theorem one_not {c : UInt8} (h : ∀ k ∈ signs, ((c.toNat : Int) == ((k : Nat) : Int)) = false) : oneB c = false := by
  cases e : oneB c with
  | false => rfl
  | true =>
    have := h c.toNat (by unfold oneB at e; simpa using e)
    simp at this
set_option maxHeartbeats 4000000 in
theorem sign_one (b : UInt8) (r : List UInt8) (s : ByteArray) (w : World) (hs : s.size ≤ 140737488355328) (hl : s.data.toList = b :: r) (hb : ¬ ((b.toNat = 60 ∨ b.toNat = 62) ∧ r.head? = some 61)) : Calls Tryd.prog 21 #[.string s] w (Answers w (signR b r)) := by
  have hx := Lib.hid (show signR b r = if oneB b then ((⟨3, 0, [b], 0⟩ : Tk), (1 : Int), (0 : Int)) else (tk0, 0, 0) by unfold signR; rw [if_neg hb])
  have h0 : 0 < s.size := by rw [← len_s, hl]; simp
  have hg := Lib.hid (show s[0] = b by rw [← get_s s 0 h0, hl]; rfl)
  have h1 : Lib.hasPrefix s.data.toList (⟨#[60, 61]⟩ : ByteArray).data.toList = false := pre_not hl fun ⟨e, h⟩ => hb ⟨.inl (by rw [e]; rfl), h⟩
  have h2 : Lib.hasPrefix s.data.toList (⟨#[62, 61]⟩ : ByteArray).data.toList = false := pre_not hl fun ⟨e, h⟩ => hb ⟨.inr (by rw [e]; rfl), h⟩
  have hq := show s.extract 0 1 = bs [b] from bs_eq (by rw [ext_list, hl]; simp)
  have hsz : 1 ≤ s.size := h0
  have hbz : (bs [b]).size ≤ 140737488355328 := by rw [bs_size]; simp
  have HL := Lib.hid hl
  clear hl hb
  go_enter Tryd.func21, Tryd.ntmps21
  go_wp2_with (first | (go_at_call 33; refine (pre_any _ ⟨#[60, 61]⟩ _ _ h1).mono ?_; rintro e w' ⟨rfl, rfl⟩) | (go_at_call 33; refine (pre_any _ ⟨#[62, 61]⟩ _ _ h2).mono ?_; rintro e w' ⟨rfl, rfl⟩) | (go_at_call 24; refine (clone_any (bs [b]) _ hbz).mono ?_; rintro e w' ⟨rfl, hb1⟩; obtain ⟨hc, hf⟩ := bcell hb1))
  iterate 15
    · have ho : oneB b = true := by
        rw [← hg.out]
        first | exact one_of (k := 43) (by assumption) (by decide) | exact one_of (k := 45) (by assumption) (by decide) | exact one_of (k := 42) (by assumption) (by decide) | exact one_of (k := 37) (by assumption) (by decide) | exact one_of (k := 124) (by assumption) (by decide) | exact one_of (k := 61) (by assumption) (by decide) | exact one_of (k := 126) (by assumption) (by decide) | exact one_of (k := 60) (by assumption) (by decide) | exact one_of (k := 62) (by assumption) (by decide) | exact one_of (k := 47) (by assumption) (by decide) | exact one_of (k := 92) (by assumption) (by decide) | exact one_of (k := 46) (by assumption) (by decide) | exact one_of (k := 58) (by assumption) (by decide) | exact one_of (k := 40) (by assumption) (by decide) | exact one_of (k := 41) (by assumption) (by decide)
      have hx2 := hx.out
      rw [if_pos ho] at hx2
      exact bodyPost_ret (v := .tuple #[.agg #[.int .i64 3, .int .i64 0, .string (bs [b]), .int .i64 0], .int .i64 1, .int .i64 0]) (by simp [results, Tryd.results21, go_sem, hc]) rfl (tok_ret (t := ⟨3, 0, [b], 0⟩) hx2 rfl (bset4 (((Below.refl _ _).alloc (Nat.le_refl _) _).trans (hb1.mono (by simp))) (Nat.le_refl _) _ _ _ _))
  · have ho : oneB b = false := by
      rw [← hg.out]
      refine one_not fun k hk => ?_
      simp only [signs, List.mem_cons, List.not_mem_nil, or_false] at hk
      rcases hk with rfl | rfl | rfl | rfl | rfl | rfl | rfl | rfl | rfl | rfl | rfl | rfl | rfl | rfl | rfl <;> assumption
    have hx2 := hx.out
    rw [if_neg (by rw [ho]; simp)] at hx2
    exact bodyPost_ret (v := .tuple #[.agg #[.int .i64 0, .int .i64 0, .string (bs []), .int .i64 0], .int .i64 0, .int .i64 0]) (by simp [results, Tryd.results21, go_sem, bs]) rfl (none_ret hx2 ((Below.refl _ _).alloc (Nat.le_refl _) _))

theorem sign_any (b : UInt8) (r : List UInt8) (s : ByteArray) (w : World) (hs : s.size ≤ 140737488355328) (hl : s.data.toList = b :: r) : Calls Tryd.prog 21 #[.string s] w (Answers w (signR b r)) := by
  by_cases hb : (b.toNat = 60 ∨ b.toNat = 62) ∧ r.head? = some 61
  · exact sign_two b r s w hs hl hb.1 hb.2
  · exact sign_one b r s w hs hl hb
/-- How many bytes of no token begin a text. -/
def idleR (b : UInt8) (r : List UInt8) : Nat := if b.toNat = 35 then run nlB r + 1 else run blB (b :: r)
set_option maxHeartbeats 1000000 in
theorem idle_any (b : UInt8) (r : List UInt8) (s : ByteArray) (w : World) (hs : s.size ≤ 140737488355328) (hl : s.data.toList = b :: r) : Calls Tryd.prog 22 #[.string s] w fun e w' => e = .returned (.int .i64 (idleR b r : Nat)) ∧ w' = w := by
  have hml : s.size ≤ maxLen := by unfold maxLen; omega
  have h0 : 0 < s.size := by rw [← len_s, hl]; simp
  have hg : s[0] = b := by rw [← get_s s 0 h0, hl]; rfl
  by_cases hb : b.toNat = 35
  · have hx := Lib.hid (show run nlB s.data.toList = idleR b r by rw [hl, run_cons, if_pos (by unfold nlB; simp [hb])]; unfold idleR; rw [if_pos hb])
    have hb : ((s[0].toNat : Int) == 35) = true := by rw [hg]; simp [hb]
    have HL := Lib.hid hl
    clear hl hg
    go_enter Tryd.func22, Tryd.ntmps22
    go_wp2_with (first | (go_at_call 28; refine (span_nl s _ hml).mono ?_; rintro e w' ⟨rfl, rfl⟩))
    go_ret
    exact ⟨ret_int (by rw [hx.out]), rfl⟩
  · have hx := Lib.hid (show run blB s.data.toList = idleR b r by rw [hl]; unfold idleR; rw [if_neg hb])
    have hb : ((s[0].toNat : Int) == 35) = false := by rw [hg]; simp; omega
    have HL := Lib.hid hl
    clear hl hg
    go_enter Tryd.func22, Tryd.ntmps22
    go_wp2_with (first | (go_at_call 28; refine (span_bl s _ hml).mono ?_; rintro e w' ⟨rfl, rfl⟩))
    go_ret
    exact ⟨ret_int (by rw [hx.out]), rfl⟩
end Go.Proofs.YtphcjpomneejmaaDoor
