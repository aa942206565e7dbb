/- Layer 4, put together: LexD, LexO, LexG, LexH, LexI, LexJ. -/
import Derived.Test.YtbapgdhcbfpdoaaGreatDoorZLa
/- Contracts of package lex: sign, idle. -/
namespace Go.Proofs.YtbapgdhcbfpdoaaGreatDoor
open Go.RowKit

theorem pre_any (s : ByteArray) (p : ByteArray) (x : Bool) (w : World) (h : Lib.hasPrefix s.data.toList p.data.toList = x) : Calls Tryz.prog 53 #[.string s, .string p] w fun e w' => e = .returned (.bool x) ∧ w' = w :=
  (Tryz.hasPrefix s p w).mono fun e w' ⟨he, hw⟩ => ⟨by rw [he, h], hw⟩
set_option maxHeartbeats 2000000 in
theorem sign_two (b : UInt8) (r : List UInt8) (s : ByteArray) (w : World) (hs : s.size ≤ 140737488355328) (hl : s.data.toList = b :: r) (hb : b.toNat = 60 ∨ b.toNat = 62) (hr : r.head? = some 61) : Calls Tryz.prog 34 #[.string s] w (Answers w (signR b r)) := by
  have hx := Lib.hid (show signR b r = ((⟨3, 0, [b, 61], 0⟩ : Tk), (2 : Int), (0 : Int)) by unfold signR; rw [if_pos ⟨hb, hr⟩])
  have h0 : 0 < s.size := by rw [← len_s, hl]; simp
  have hg : s[0] = b := by rw [← get_s s 0 h0, hl]; rfl
  obtain ⟨r1, rfl⟩ : ∃ r1, r = 61 :: r1 := by
    cases r with
    | nil => simp at hr
    | cons c r1 => simp at hr; exact ⟨r1, by rw [hr]⟩
  have hsz : 2 ≤ s.size := by rw [← len_s, hl]; simp
  have hq := show s.extract 0 2 = bs [b, 61] from bs_eq (by rw [ext_list, hl]; simp)
  have hz := Lib.hid hr
  rcases hb with hb | hb
  · obtain rfl : b = 60 := UInt8.toNat_inj.1 hb
    have h1 : Lib.hasPrefix s.data.toList (⟨#[60, 61]⟩ : ByteArray).data.toList = true := by rw [hl]; simp [Lib.hasPrefix]
    have HL := Lib.hid hl
    clear hl hb hr
    go_enter Tryz.func34, Tryz.ntmps34
    go_wp2_with (first | (go_at_call 53; with_reducible refine (pre_any _ ⟨#[60, 61]⟩ _ _ h1).mono ?_; rintro e w' ⟨rfl, rfl⟩) | (go_at_call 50; refine (clone_any (bs [60, 61]) _ (by decide)).mono ?_; rintro e w' ⟨rfl, hb1⟩; obtain ⟨hc, hf⟩ := bcell hb1))
    exact bodyPost_ret (v := .tuple #[.agg #[.int .i64 3, .int .i64 0, .string (bs [60, 61]), .int .i64 0], .int .i64 2, .int .i64 0]) (by simp [results, Tryz.results34, go_sem, hc]) rfl (tok_ret (t := ⟨3, 0, [60, 61], 0⟩) hx.out rfl (bset4 (((Below.refl _ _).alloc (Nat.le_refl _) _).trans (hb1.mono (by simp))) (Nat.le_refl _) _ _ _ _))
  · obtain rfl : b = 62 := UInt8.toNat_inj.1 hb
    have h1 : Lib.hasPrefix s.data.toList (⟨#[60, 61]⟩ : ByteArray).data.toList = false := by rw [hl]; rfl
    have h2 : Lib.hasPrefix s.data.toList (⟨#[62, 61]⟩ : ByteArray).data.toList = true := by rw [hl]; simp [Lib.hasPrefix]
    have HL := Lib.hid hl
    clear hl hb hr
    go_enter Tryz.func34, Tryz.ntmps34
    go_wp2_with (first | (go_at_call 53; with_reducible refine (pre_any _ ⟨#[60, 61]⟩ _ _ h1).mono ?_; rintro e w' ⟨rfl, rfl⟩) | (go_at_call 53; with_reducible refine (pre_any _ ⟨#[62, 61]⟩ _ _ h2).mono ?_; rintro e w' ⟨rfl, rfl⟩) | (go_at_call 50; refine (clone_any (bs [62, 61]) _ (by decide)).mono ?_; rintro e w' ⟨rfl, hb1⟩; obtain ⟨hc, hf⟩ := bcell hb1))
    exact bodyPost_ret (v := .tuple #[.agg #[.int .i64 3, .int .i64 0, .string (bs [62, 61]), .int .i64 0], .int .i64 2, .int .i64 0]) (by simp [results, Tryz.results34, go_sem, hc]) rfl (tok_ret (t := ⟨3, 0, [62, 61], 0⟩) hx.out rfl (bset4 (((Below.refl _ _).alloc (Nat.le_refl _) _).trans (hb1.mono (by simp))) (Nat.le_refl _) _ _ _ _))

theorem pre_not {l : List UInt8} {b c : UInt8} {r : List UInt8} (hl : l = b :: r) (h : ¬ (b = c ∧ r.head? = some 61)) : Lib.hasPrefix l [c, 61] = false := by
  subst hl
  unfold Lib.hasPrefix
  cases r with
  | nil => simp [List.isPrefixOf]
  | cons d r =>
    by_cases h1 : c = b
    · have : ¬ d = 61 := fun e => h ⟨h1.symm, by rw [e]; rfl⟩
      have h2 : ¬ 61 = d := fun e => this e.symm
      simp [List.isPrefixOf, h2]
    · simp [List.isPrefixOf, h1]
theorem one_of {c : UInt8} {k : Int} (h : ((c.toNat : Int) == k) = true) (hk : (signs.any fun n => (n : Int) == k) = true) : oneB c = true := by
  obtain ⟨n, hn, e⟩ := List.any_eq_true.1 hk
  have e1 := eq_of_beq h
  have e2 := eq_of_beq e
  have e3 : c.toNat = n := by omega
  unfold oneB; rw [e3]; simpa using hn
theorem one_not {c : UInt8} (h : ∀ k ∈ signs, ((c.toNat : Int) == ((k : Nat) : Int)) = false) : oneB c = false := by
  cases e : oneB c with
  | false => rfl
  | true =>
    have := h c.toNat (by unfold oneB at e; simpa using e)
    simp at this
set_option maxHeartbeats 4000000 in
theorem sign_one (b : UInt8) (r : List UInt8) (s : ByteArray) (w : World) (hs : s.size ≤ 140737488355328) (hl : s.data.toList = b :: r) (hb : ¬ ((b.toNat = 60 ∨ b.toNat = 62) ∧ r.head? = some 61)) : Calls Tryz.prog 34 #[.string s] w (Answers w (signR b r)) := by
  have hx := Lib.hid (show signR b r = if oneB b then ((⟨3, 0, [b], 0⟩ : Tk), (1 : Int), (0 : Int)) else (tk0, 0, 0) by unfold signR; rw [if_neg hb])
  have h0 : 0 < s.size := by rw [← len_s, hl]; simp
  have hg := Lib.hid (show s[0] = b by rw [← get_s s 0 h0, hl]; rfl)
  have h1 : Lib.hasPrefix s.data.toList (⟨#[60, 61]⟩ : ByteArray).data.toList = false := pre_not hl fun ⟨e, h⟩ => hb ⟨.inl (by rw [e]; rfl), h⟩
  have h2 : Lib.hasPrefix s.data.toList (⟨#[62, 61]⟩ : ByteArray).data.toList = false := pre_not hl fun ⟨e, h⟩ => hb ⟨.inr (by rw [e]; rfl), h⟩
  have hq := show s.extract 0 1 = bs [b] from bs_eq (by rw [ext_list, hl]; simp)
  have hsz : 1 ≤ s.size := h0
  have hbz : (bs [b]).size ≤ 140737488355328 := by rw [bs_size]; simp
  have HL := Lib.hid hl
  clear hl hb
  go_enter Tryz.func34, Tryz.ntmps34
  go_wp2_with (first | (go_at_call 53; with_reducible refine (pre_any _ ⟨#[60, 61]⟩ _ _ h1).mono ?_; rintro e w' ⟨rfl, rfl⟩) | (go_at_call 53; with_reducible refine (pre_any _ ⟨#[62, 61]⟩ _ _ h2).mono ?_; rintro e w' ⟨rfl, rfl⟩) | (go_at_call 50; refine (clone_any (bs [b]) _ hbz).mono ?_; rintro e w' ⟨rfl, hb1⟩; obtain ⟨hc, hf⟩ := bcell hb1))
  iterate 15
    · have ho : oneB b = true := by
        rw [← hg.out]
        first | exact one_of (k := 43) (by assumption) (by decide) | exact one_of (k := 45) (by assumption) (by decide) | exact one_of (k := 42) (by assumption) (by decide) | exact one_of (k := 37) (by assumption) (by decide) | exact one_of (k := 124) (by assumption) (by decide) | exact one_of (k := 61) (by assumption) (by decide) | exact one_of (k := 126) (by assumption) (by decide) | exact one_of (k := 60) (by assumption) (by decide) | exact one_of (k := 62) (by assumption) (by decide) | exact one_of (k := 47) (by assumption) (by decide) | exact one_of (k := 92) (by assumption) (by decide) | exact one_of (k := 46) (by assumption) (by decide) | exact one_of (k := 58) (by assumption) (by decide) | exact one_of (k := 40) (by assumption) (by decide) | exact one_of (k := 41) (by assumption) (by decide)
      have hx2 := hx.out
      rw [if_pos ho] at hx2
      exact bodyPost_ret (v := .tuple #[.agg #[.int .i64 3, .int .i64 0, .string (bs [b]), .int .i64 0], .int .i64 1, .int .i64 0]) (by simp [results, Tryz.results34, go_sem, hc]) rfl (tok_ret (t := ⟨3, 0, [b], 0⟩) hx2 rfl (bset4 (((Below.refl _ _).alloc (Nat.le_refl _) _).trans (hb1.mono (by simp))) (Nat.le_refl _) _ _ _ _))
  · have ho : oneB b = false := by
      rw [← hg.out]
      refine one_not fun k hk => ?_
      simp only [signs, List.mem_cons, List.not_mem_nil, or_false] at hk
      rcases hk with rfl | rfl | rfl | rfl | rfl | rfl | rfl | rfl | rfl | rfl | rfl | rfl | rfl | rfl | rfl <;> assumption
    have hx2 := hx.out
    rw [if_neg (by rw [ho]; simp)] at hx2
    exact bodyPost_ret (v := .tuple #[.agg #[.int .i64 0, .int .i64 0, .string (bs []), .int .i64 0], .int .i64 0, .int .i64 0]) (by simp [results, Tryz.results34, go_sem, bs]) rfl (none_ret hx2 ((Below.refl _ _).alloc (Nat.le_refl _) _))

theorem sign_any (b : UInt8) (r : List UInt8) (s : ByteArray) (w : World) (hs : s.size ≤ 140737488355328) (hl : s.data.toList = b :: r) : Calls Tryz.prog 34 #[.string s] w (Answers w (signR b r)) := by
  by_cases hb : (b.toNat = 60 ∨ b.toNat = 62) ∧ r.head? = some 61
  · exact sign_two b r s w hs hl hb.1 hb.2
  · exact sign_one b r s w hs hl hb
/-- How many bytes of no token begin a text. -/
def idleR (b : UInt8) (r : List UInt8) : Nat := if b.toNat = 35 then run nlB r + 1 else run blB (b :: r)
set_option maxHeartbeats 1000000 in
theorem idle_any (b : UInt8) (r : List UInt8) (s : ByteArray) (w : World) (hs : s.size ≤ 140737488355328) (hl : s.data.toList = b :: r) : Calls Tryz.prog 35 #[.string s] w fun e w' => e = .returned (.int .i64 (idleR b r : Nat)) ∧ w' = w := by
  have hml : s.size ≤ maxLen := by unfold maxLen; omega
  have h0 : 0 < s.size := by rw [← len_s, hl]; simp
  have hg : s[0] = b := by rw [← get_s s 0 h0, hl]; rfl
  by_cases hb : b.toNat = 35
  · have hx := Lib.hid (show run nlB s.data.toList = idleR b r by rw [hl, run_cons, if_pos (by unfold nlB; simp [hb])]; unfold idleR; rw [if_pos hb])
    have hb : ((s[0].toNat : Int) == 35) = true := by rw [hg]; simp [hb]
    have HL := Lib.hid hl
    clear hl hg
    go_enter Tryz.func35, Tryz.ntmps35
    go_wp2_with (first | (go_at_call 47; refine (span_nl s _ hml).mono ?_; rintro e w' ⟨rfl, rfl⟩))
    go_ret
    exact ⟨ret_int (by rw [hx.out]), rfl⟩
  · have hx := Lib.hid (show run blB s.data.toList = idleR b r by rw [hl]; unfold idleR; rw [if_neg hb])
    have hb : ((s[0].toNat : Int) == 35) = false := by rw [hg]; simp; omega
    have HL := Lib.hid hl
    clear hl hg
    go_enter Tryz.func35, Tryz.ntmps35
    go_wp2_with (first | (go_at_call 47; refine (span_bl s _ hml).mono ?_; rintro e w' ⟨rfl, rfl⟩))
    go_ret
    exact ⟨ret_int (by rw [hx.out]), rfl⟩
end Go.Proofs.YtbapgdhcbfpdoaaGreatDoor
/- What the four begins of a token say of how a text is cut. -/
namespace Go.Proofs.YtbapgdhcbfpdoaaGreatDoor
open Go.RowKit

theorem lex_blanks : ∀ (n : Nat) (l : List UInt8) (a : Int), n ≤ run blB l → lexL l a = lexL (l.drop n) (a + n)
  | 0, l, a, _ => by simp
  | n + 1, [], a, h => by simp [run_nil] at h
  | n + 1, b :: r, a, h => by
    rw [run_cons] at h
    cases hb : blB b with
    | false => rw [hb] at h; simp at h
    | true =>
      rw [hb, if_pos rfl] at h
      have hp : piece b r = .skip 0 := by unfold piece; rw [if_pos hb]
      rw [lex_skip hp, List.drop_zero, List.drop_succ_cons, lex_blanks n r _ (by omega)]
      congr 1
      omega
theorem idle_le (b : UInt8) (r : List UInt8) : idleR b r ≤ r.length + 1 := by
  unfold idleR
  split
  · have := run_le nlB r; omega
  · have := run_le blB (b :: r); simpa using this
theorem idle_lex (b : UInt8) (r : List UInt8) (a : Int) : 0 < idleR b r → lexL (b :: r) a = lexL ((b :: r).drop (idleR b r)) (a + idleR b r) := by
  unfold idleR
  split
  · rename_i h
    intro _
    have hp : piece b r = .skip (run nlB r) := by unfold piece; rw [if_neg (by unfold blB; simp [h]), if_pos h]
    rw [lex_skip hp, List.drop_succ_cons]
    congr 1
    omega
  · intro _
    exact lex_blanks _ _ a (Nat.le_refl _)
theorem idle_no {b : UInt8} {r : List UInt8} (h : idleR b r = 0) : blB b = false ∧ b.toNat ≠ 35 := by
  unfold idleR at h
  split at h
  · omega
  · rename_i h35
    rw [run_cons] at h
    refine ⟨?_, h35⟩
    cases e : blB b
    · rfl
    · rw [e] at h; simp at h
/-- What an answer of the four says of the text. -/
def Sel (b : UInt8) (r : List UInt8) (x : Tk × Int × Int) : Prop :=
  (x.2.2 ≠ 0 → ∀ a, lexL (b :: r) a = .err a x.2.2) ∧ (x.2.2 = 0 → x.2.1 ≠ 0 → ∃ n : Nat, x.2.1 = n ∧ 0 < n ∧ n ≤ r.length + 1 ∧ ∀ a, lexL (b :: r) a = Rs.pre [{ x.1 with a := a }] (lexL ((b :: r).drop n) (a + n)))
theorem sel_none {b : UInt8} {r : List UInt8} : Sel b r (tk0, 0, 0) := ⟨fun h => (h rfl).elim, fun _ h => (h rfl).elim⟩
theorem sel_bad {b : UInt8} {r : List UInt8} {e : Int} (h : piece b r = .bad e) (he : e ≠ 0) : Sel b r (tk0, 0, e) := ⟨fun _ a => lex_bad h a, fun h => (he h).elim⟩
theorem sel_tok {b : UInt8} {r : List UInt8} {kd v : Int} {w : List UInt8} {k : Nat} (h : piece b r = .tok kd w v k) {n : Int} (hn : n = (k + 1 : Nat)) : Sel b r (⟨kd, 0, w, v⟩, n, 0) :=
  ⟨fun h => (h rfl).elim, fun _ _ => ⟨k + 1, hn, by omega, by have := piece_le h; omega, fun a => by
    rw [lex_tok h, List.drop_succ_cons]
    congr 2
    omega⟩⟩
theorem sel_line {b : UInt8} {r : List UInt8} (h : idleR b r = 0) : Sel b r (lineR b r) := by
  obtain ⟨h1, h2⟩ := idle_no h
  unfold lineR
  split
  · rename_i h3
    refine sel_tok (k := 0) ?_ rfl
    unfold piece; rw [if_neg (by rw [h1]; simp), if_neg h2, if_pos h3]
  · exact sel_none
theorem line_no {b : UInt8} {r : List UInt8} (h : (lineR b r).2.1 = 0) : b.toNat ≠ 10 := by
  unfold lineR at h; split at h
  · simp at h
  · assumption
theorem sel_word {b : UInt8} {r : List UInt8} (h : idleR b r = 0) (hl : (lineR b r).2.1 = 0) : Sel b r (wordR b r) := by
  obtain ⟨h1, h2⟩ := idle_no h
  have h3 := line_no hl
  unfold wordR
  split
  · rename_i h4
    split
    · rename_i h5
      refine sel_bad ?_ (by decide)
      unfold piece; rw [if_neg (by rw [h1]; simp), if_neg h2, if_neg h3, if_pos h4, if_pos h5]
    · rename_i h5
      refine sel_tok (k := run alnB r) ?_ rfl
      unfold piece; rw [if_neg (by rw [h1]; simp), if_neg h2, if_neg h3, if_pos h4, if_neg h5]
  · exact sel_none
theorem word_no {b : UInt8} {r : List UInt8} (h : (wordR b r).2.1 = 0) (he : (wordR b r).2.2 = 0) : letB b = false := by
  unfold wordR at h he; split at h
  · rename_i h1
    rw [if_pos h1] at he
    split at h
    · rename_i h2; rw [if_pos h2] at he; simp at he
    · simp at h; omega
  · rename_i h1; simpa using h1
theorem sel_numA {b : UInt8} {r : List UInt8} {o : Option Int} {k : Nat} (h : piece b r = numP o k) : Sel b r (numA o (k + 1)) := by
  cases o with
  | none => exact sel_bad h (by decide)
  | some v => exact sel_tok h rfl
theorem numA_no {o : Option Int} {k : Nat} (h : (numA o (k + 1)).2.1 = 0) (he : (numA o (k + 1)).2.2 = 0) : False := by
  cases o with
  | none => simp [numA] at he
  | some v => simp [numA] at h; omega
theorem dig95 {b : UInt8} (h : b.toNat = 95) : digB b = false := by unfold digB; simp; omega
theorem sel_number {b : UInt8} {r : List UInt8} (h : idleR b r = 0) (hl : (lineR b r).2.1 = 0) (hw : letB b = false) : Sel b r (numberR b r) := by
  obtain ⟨h1, h2⟩ := idle_no h
  have h3 := line_no hl
  unfold numberR
  split
  · rename_i h4
    split
    · rename_i h5
      refine sel_numA ?_
      unfold piece; rw [if_neg (by rw [h1]; simp), if_neg h2, if_neg h3, if_neg (by rw [hw]; simp), if_neg (by rw [dig95 h4]; simp), if_pos ⟨h4, h5⟩]
    · exact sel_none
  · rename_i h4
    split
    · rename_i h5
      refine sel_numA ?_
      unfold piece; rw [if_neg (by rw [h1]; simp), if_neg h2, if_neg h3, if_neg (by rw [hw]; simp), if_pos h5]
    · exact sel_none
theorem number_none {b : UInt8} {r : List UInt8} (h : (numberR b r).2.1 = 0) (he : (numberR b r).2.2 = 0) : digB b = false ∧ ¬ (b.toNat = 95 ∧ 0 < run digB r) := by
  unfold numberR at h he
  split at h
  · rename_i h1
    rw [if_pos h1] at he
    split at h
    · rename_i h2; rw [if_pos h2] at he; exact (numA_no h he).elim
    · rename_i h2; exact ⟨dig95 h1, fun h => h2 h.2⟩
  · rename_i h1
    rw [if_neg h1] at he
    split at h
    · rename_i h2; rw [if_pos h2] at he; exact (numA_no h he).elim
    · rename_i h2; exact ⟨by simpa using h2, fun h => h1 h.1⟩
theorem sel_sign {b : UInt8} {r : List UInt8} (h : idleR b r = 0) (hl : (lineR b r).2.1 = 0) (hw : letB b = false) (hn : digB b = false ∧ ¬ (b.toNat = 95 ∧ 0 < run digB r)) : Sel b r (signR b r) ∧ ((signR b r).2.1 = 0 → ∀ a, lexL (b :: r) a = .err a 31) := by
  obtain ⟨h1, h2⟩ := idle_no h
  have h3 := line_no hl
  unfold signR
  split
  · rename_i h4
    refine ⟨sel_tok (k := 1) ?_ rfl, fun h => by simp at h⟩
    unfold piece; rw [if_neg (by rw [h1]; simp), if_neg h2, if_neg h3, if_neg (by rw [hw]; simp), if_neg (by rw [hn.1]; simp), if_neg hn.2, if_pos h4]
  · rename_i h4
    split
    · rename_i h5
      refine ⟨sel_tok (k := 0) ?_ rfl, fun h => by simp at h⟩
      unfold piece; rw [if_neg (by rw [h1]; simp), if_neg h2, if_neg h3, if_neg (by rw [hw]; simp), if_neg (by rw [hn.1]; simp), if_neg hn.2, if_neg h4, if_pos h5]
    · rename_i h5
      refine ⟨sel_none, fun _ a => lex_bad ?_ a⟩
      unfold piece; rw [if_neg (by rw [h1]; simp), if_neg h2, if_neg h3, if_neg (by rw [hw]; simp), if_neg (by rw [hn.1]; simp), if_neg hn.2, if_neg h4, if_neg h5]
/-- The j-th of the four. -/
def begR (j : Nat) (b : UInt8) (r : List UInt8) : Tk × Int × Int := match j with
  | 0 => lineR b r
  | 1 => wordR b r
  | 2 => numberR b r
  | _ => signR b r
def NoneB (j : Nat) (b : UInt8) (r : List UInt8) : Prop := ∀ i, i < j → (begR i b r).2.1 = 0 ∧ (begR i b r).2.2 = 0
theorem sel_at {j : Nat} {b : UInt8} {r : List UInt8} (h : idleR b r = 0) (hj : j < 4) (hn : NoneB j b r) : Sel b r (begR j b r) := by
  match j, hj with
  | 0, _ => exact sel_line h
  | 1, _ => exact sel_word h (hn 0 (by omega)).1
  | 2, _ => exact sel_number h (hn 0 (by omega)).1 (word_no (hn 1 (by omega)).1 (hn 1 (by omega)).2)
  | 3, _ => exact (sel_sign h (hn 0 (by omega)).1 (word_no (hn 1 (by omega)).1 (hn 1 (by omega)).2) (number_none (hn 2 (by omega)).1 (hn 2 (by omega)).2)).1
theorem sel_all {b : UInt8} {r : List UInt8} (h : idleR b r = 0) (hn : NoneB 4 b r) (a : Int) : lexL (b :: r) a = .err a 31 :=
  (sel_sign h (hn 0 (by omega)).1 (word_no (hn 1 (by omega)).1 (hn 1 (by omega)).2) (number_none (hn 2 (by omega)).1 (hn 2 (by omega)).2)).2 (hn 3 (by omega)).1 a
end Go.Proofs.YtbapgdhcbfpdoaaGreatDoor
/- Contracts of the document's answers for layer 3: end, sign, value. -/
namespace Go.Proofs.YtbapgdhcbfpdoaaGreatDoor
open Go.RowKit

theorem drop_get (l : List UInt8) (k i : Nat) : (l.drop k).getD i 0 = l.getD (k + i) 0 := by
  rw [List.getD_eq_getElem?_getD, List.getD_eq_getElem?_getD, List.getElem?_drop]
theorem run_at {f : UInt8 → Bool} {s : ByteArray} {k j : Nat} (hkj : k ≤ j) (hj : j ≤ s.size) (h : ∀ i, k ≤ i → i < j → f (s.data.toList.getD i 0) = true) (hs : j = s.size ∨ f (s.data.toList.getD j 0) = false) : run f (s.data.toList.drop k) = j - k := by
  refine run_stop _ _ (j - k) (fun i hi => by rw [drop_get]; exact h _ (by omega) (by omega)) (by rw [List.length_drop, len_s]; omega) ?_
  rcases hs with hs | hs
  · left; rw [List.length_drop, len_s]; omega
  · right; rw [drop_get, show k + (j - k) = j from by omega]; exact hs
set_option maxHeartbeats 1000000 in
theorem rend_aln (s : ByteArray) (k : Nat) (w : World) (hs : s.size ≤ 140737488355328) (hk : k ≤ s.size) : Calls Tryz.prog 86 #[.string s, .int .i64 k, .bool true] w fun e w' => e = .returned (.int .i64 (k + run alnB (s.data.toList.drop k) : Nat)) ∧ w' = w := by
  go_enter Tryz.func86, Tryz.ntmps86
  go_wp2
  go_loop [1] (fun i => ∃ j : Nat, k ≤ j ∧ j ≤ s.size ∧ i = .int .i64 j ∧ ∀ i, k ≤ i → i < j → alnB (s.data.toList.getD i 0) = true) (fun i => s.size - (intOf i).toNat)
  case atStart => exact ⟨k, Nat.le_refl _, hk, rfl, fun j h1 h2 => by omega⟩
  case round =>
    obtain ⟨j, hkj, hj, rfl, hp⟩ := hrel
    have HP := Lib.hid hp
    clear hp
    by_cases hlt : j < s.size
    · have hg := Lib.hid (get_s s j hlt)
      have T : ∀ hb : alnB s[j] = true, ∀ i, k ≤ i → i < j + 1 → alnB (s.data.toList.getD i 0) = true := fun hb i h1 h2 => by
        rcases Nat.lt_or_ge i j with h | h
        · exact HP.out i h1 h
        · obtain rfl : i = j := by omega
          rw [hg.out]; exact hb
      have HT := Lib.hid T
      clear T
      cases hd : digB s[j] with
      | true =>
        go_wp2_with (first | (go_at_call 104; refine (rdigit_any s[j] _).mono ?_; rintro e w' ⟨rfl, rfl⟩) | (go_at_call 85; refine (rletter_any s[j] _).mono ?_; rintro e w' ⟨rfl, rfl⟩))
        go_round
        case rel => exact ⟨j + 1, by omega, by omega, by go_num, HT.out (by unfold alnB; rw [hd]; simp)⟩
        case measure => simp [intOf]; omega
      | false =>
        cases hl : letB s[j] with
        | true =>
          go_wp2_with (first | (go_at_call 104; refine (rdigit_any s[j] _).mono ?_; rintro e w' ⟨rfl, rfl⟩) | (go_at_call 85; refine (rletter_any s[j] _).mono ?_; rintro e w' ⟨rfl, rfl⟩))
          go_round
          case rel => exact ⟨j + 1, by omega, by omega, by go_num, HT.out (by unfold alnB; rw [hl]; simp)⟩
          case measure => simp [intOf]; omega
        | false =>
          go_wp2_with (first | (go_at_call 104; refine (rdigit_any s[j] _).mono ?_; rintro e w' ⟨rfl, rfl⟩) | (go_at_call 85; refine (rletter_any s[j] _).mono ?_; rintro e w' ⟨rfl, rfl⟩))
          go_ret
          exact ⟨ret_int (by rw [run_at hkj (by omega) HP.out (.inr (by rw [hg.out]; unfold alnB; rw [hd, hl]; rfl))]; omega), rfl⟩
    · obtain rfl : j = s.size := by omega
      go_wp2
      go_ret
      exact ⟨ret_int (by rw [run_at hkj (by omega) HP.out (.inl rfl)]; omega), rfl⟩
set_option maxHeartbeats 1000000 in
theorem rend_dig (s : ByteArray) (k : Nat) (w : World) (hs : s.size ≤ 140737488355328) (hk : k ≤ s.size) : Calls Tryz.prog 86 #[.string s, .int .i64 k, .bool false] w fun e w' => e = .returned (.int .i64 (k + run digB (s.data.toList.drop k) : Nat)) ∧ w' = w := by
  go_enter Tryz.func86, Tryz.ntmps86
  go_wp2
  go_loop [1] (fun i => ∃ j : Nat, k ≤ j ∧ j ≤ s.size ∧ i = .int .i64 j ∧ ∀ i, k ≤ i → i < j → digB (s.data.toList.getD i 0) = true) (fun i => s.size - (intOf i).toNat)
  case atStart => exact ⟨k, Nat.le_refl _, hk, rfl, fun j h1 h2 => by omega⟩
  case round =>
    obtain ⟨j, hkj, hj, rfl, hp⟩ := hrel
    have HP := Lib.hid hp
    clear hp
    by_cases hlt : j < s.size
    · have hg := Lib.hid (get_s s j hlt)
      cases hd : digB s[j] with
      | true =>
        go_wp2_with (first | (go_at_call 104; refine (rdigit_any s[j] _).mono ?_; rintro e w' ⟨rfl, rfl⟩))
        go_round
        case rel => exact ⟨j + 1, by omega, by omega, by go_num, fun i h1 h2 => by
          rcases Nat.lt_or_ge i j with h | h
          · exact HP.out i h1 h
          · obtain rfl : i = j := by omega
            rw [hg.out]; exact hd⟩
        case measure => simp [intOf]; omega
      | false =>
        go_wp2_with (first | (go_at_call 104; refine (rdigit_any s[j] _).mono ?_; rintro e w' ⟨rfl, rfl⟩))
        go_ret
        exact ⟨ret_int (by rw [run_at hkj (by omega) HP.out (.inr (by rw [hg.out]; exact hd))]; omega), rfl⟩
    · obtain rfl : j = s.size := by omega
      go_wp2
      go_ret
      exact ⟨ret_int (by rw [run_at hkj (by omega) HP.out (.inl rfl)]; omega), rfl⟩
end Go.Proofs.YtbapgdhcbfpdoaaGreatDoor
/- Contracts of the document's answers for layer 3: value, sign. -/
namespace Go.Proofs.YtbapgdhcbfpdoaaGreatDoor
open Go.RowKit

theorem mag_app (acc : Nat) (l r : List UInt8) : mag acc (l ++ r) = mag (mag acc l) r := by unfold mag; rw [List.foldl_append]
theorem mag_take (ds : List UInt8) (k : Nat) : mag 0 (ds.take k) ≤ mag 0 ds := by
  have h := mag_app 0 (ds.take k) (ds.drop k)
  rw [List.take_append_drop] at h
  rw [h]; exact mag_ge _ _
theorem mag_succ (s : ByteArray) (k : Nat) (h : k < s.size) : mag 0 (s.data.toList.take (k + 1)) = mag 0 (s.data.toList.take k) * 10 + (s[k].toNat - 48) := by
  rw [List.take_succ_eq_append_getElem (by simpa using h), mag_app, mag_cons, mag_nil]; rfl
theorem neg_wrap (N : Nat) (h : N ≤ 9223372036854775808) : wrap64 (IntKind.u64.wrap (-(N : Int))) = -(N : Int) := by
  have e : IntKind.u64.wrap (-(N : Int)) = (-(N : Int)) % 18446744073709551616 := by simp [IntKind.wrap, IntKind.bits, IntKind.signed]
  rw [e]
  unfold wrap64
  omega
def ValR (o : Option Int) (e : Ending) : Prop := e = .returned (.tuple #[.int .i64 (o.getD 0), .bool o.isSome])
theorem val_none {o : Option Int} (h : o = none) : ValR o (.returned (.tuple #[.int .i64 0, .bool false])) := by subst h; rfl
theorem val_some {o : Option Int} {v v' : Int} (h : o = some v) (hv : v' = v) : ValR o (.returned (.tuple #[.int .i64 v', .bool true])) := by subst h hv; rfl
set_option maxHeartbeats 1000000 in
set_option maxRecDepth 100000 in
theorem rvalue_pos (s : ByteArray) (w : World) (hs : s.size ≤ 140737488355328) (hd : ∀ c ∈ s.data.toList, digB c = true) : Calls Tryz.prog 87 #[.string s, .bool false] w fun e w' => ValR (numR false s.data.toList) e ∧ w' = w := by
  have HD := Lib.hid hd
  clear hd
  go_enter Tryz.func87, Tryz.ntmps87
  go_wp2
  go_loop [6, 8] (fun n i => ∃ k N : Nat, k ≤ s.size ∧ i = .int .i64 k ∧ n = .int .u64 N ∧ N ≤ 9223372036854775807 ∧ Hid (N = mag 0 (s.data.toList.take k))) (fun _ i => s.size - (intOf i).toNat)
  case atStart => exact ⟨0, 0, by omega, rfl, rfl, by omega, rfl⟩
  case round =>
    obtain ⟨k, N, hk, rfl, rfl, hN, HN⟩ := hrel
    by_cases hlt : k < s.size
    · have HG := Lib.hid (get_s s k hlt)
      have hdk := (digB_iff s[k]).1 (HD.out _ (by rw [← HG.out, List.getD_eq_getElem?_getD, List.getElem?_eq_getElem (by simpa using hlt)]; exact List.getElem_mem _))
      have h48 : (48 : Int) ≤ (s[k].toNat : Int) := by omega
      have h57 : (s[k].toNat : Int) ≤ 57 := by omega
      have HM := Lib.hid (mag_succ s k hlt)
      have hle := Lib.hid (mag_take s.data.toList (k + 1))
      clear hdk
      by_cases hov : (9223372036854775807 - ((s[k].toNat : Int) - 48)) / 10 < (N : Int)
      · have hx := Lib.hid (show numR false s.data.toList = none by
          unfold numR
          have h1 := HM.out
          have h2 := HN.out
          have h3 := hle.out
          rw [← h2] at h1
          rw [if_neg Bool.false_ne_true, if_neg (by omega)])
        go_wp2
        go_ret2
        exact ⟨val_none hx.out, rfl⟩
      · have HN2 := Lib.hid (show N * 10 + (s[k].toNat - 48) = mag 0 (s.data.toList.take (k + 1)) by rw [HM.out, ← HN.out])
        have hb1 : 10 * (N : Int) + ((s[k].toNat : Int) - 48) ≤ 9223372036854775807 := by omega
        go_wp2
        go_round
        case rel => exact ⟨k + 1, N * 10 + (s[k].toNat - 48), by omega, by go_num, by go_num, by omega, HN2.out⟩
        case measure => simp [intOf]; omega
    · obtain rfl : k = s.size := by omega
      have HN2 := Lib.hid (show N = mag 0 s.data.toList by rw [HN.out, List.take_of_length_le (by rw [len_s]; omega)])
      have hx := Lib.hid (show numR false s.data.toList = some (N : Int) by unfold numR; rw [← HN2.out]; rw [if_neg Bool.false_ne_true, if_pos (by omega)])
      go_wp2
      go_ret2
      exact ⟨val_some hx.out rfl, rfl⟩
set_option maxHeartbeats 1000000 in
set_option maxRecDepth 100000 in
theorem rvalue_neg (s : ByteArray) (w : World) (hs : s.size ≤ 140737488355328) (hd : ∀ c ∈ s.data.toList, digB c = true) : Calls Tryz.prog 87 #[.string s, .bool true] w fun e w' => ValR (numR true s.data.toList) e ∧ w' = w := by
  have HD := Lib.hid hd
  clear hd
  go_enter Tryz.func87, Tryz.ntmps87
  go_wp2
  go_loop [6, 8] (fun n i => ∃ k N : Nat, k ≤ s.size ∧ i = .int .i64 k ∧ n = .int .u64 N ∧ N ≤ 9223372036854775808 ∧ Hid (N = mag 0 (s.data.toList.take k))) (fun _ i => s.size - (intOf i).toNat)
  case atStart => exact ⟨0, 0, by omega, rfl, rfl, by omega, rfl⟩
  case round =>
    obtain ⟨k, N, hk, rfl, rfl, hN, HN⟩ := hrel
    by_cases hlt : k < s.size
    · have HG := Lib.hid (get_s s k hlt)
      have hdk := (digB_iff s[k]).1 (HD.out _ (by rw [← HG.out, List.getD_eq_getElem?_getD, List.getElem?_eq_getElem (by simpa using hlt)]; exact List.getElem_mem _))
      have h48 : (48 : Int) ≤ (s[k].toNat : Int) := by omega
      have h57 : (s[k].toNat : Int) ≤ 57 := by omega
      have HM := Lib.hid (mag_succ s k hlt)
      have hle := Lib.hid (mag_take s.data.toList (k + 1))
      clear hdk
      by_cases hov : (9223372036854775808 - ((s[k].toNat : Int) - 48)) / 10 < (N : Int)
      · have hx := Lib.hid (show numR true s.data.toList = none by
          unfold numR
          have h1 := HM.out
          have h2 := HN.out
          have h3 := hle.out
          rw [← h2] at h1
          rw [if_pos rfl, if_neg (by omega)])
        go_wp2
        go_ret2
        exact ⟨val_none hx.out, rfl⟩
      · have HN2 := Lib.hid (show N * 10 + (s[k].toNat - 48) = mag 0 (s.data.toList.take (k + 1)) by rw [HM.out, ← HN.out])
        have hb1 : 10 * (N : Int) + ((s[k].toNat : Int) - 48) ≤ 9223372036854775808 := by omega
        go_wp2
        go_round
        case rel => exact ⟨k + 1, N * 10 + (s[k].toNat - 48), by omega, by go_num, by go_num, by omega, HN2.out⟩
        case measure => simp [intOf]; omega
    · obtain rfl : k = s.size := by omega
      have HN2 := Lib.hid (show N = mag 0 s.data.toList by rw [HN.out, List.take_of_length_le (by rw [len_s]; omega)])
      have hx := Lib.hid (show numR true s.data.toList = some (-(N : Int)) by unfold numR; rw [← HN2.out]; rw [if_pos rfl, if_pos (by omega)])
      go_wp2
      go_ret2
      exact ⟨val_some hx.out (neg_wrap N hN), rfl⟩
end Go.Proofs.YtbapgdhcbfpdoaaGreatDoor
/- Contract of the document's answers for layer 3: sign. -/
namespace Go.Proofs.YtbapgdhcbfpdoaaGreatDoor
open Go.RowKit

/-- The sign that begins a text; empty: none. -/
def oneW (b : UInt8) : List UInt8 := if oneB b then [b] else []
def signW (b : UInt8) (r : List UInt8) : List UInt8 := if (b.toNat = 60 ∨ b.toNat = 62) ∧ r.head? = some 61 then [b, 61] else oneW b
theorem ret_str {a b : ByteArray} (h : a = b) : Ending.returned (.string a) = .returned (.string b) := by rw [h]
theorem at_next {s : ByteArray} {k : Nat} {b : UInt8} {r : List UInt8} (h : s.data.toList.drop k = b :: r) : k < s.size ∧ ∀ hk : k < s.size, s[k] = b := by
  have hk : k < s.size := by
    rcases Nat.lt_or_ge k s.size with h1 | h1
    · exact h1
    · rw [List.drop_of_length_le (by rw [len_s]; exact h1)] at h; cases h
  refine ⟨hk, fun _ => ?_⟩
  have := drop_get s.data.toList k 0
  rw [h] at this
  rw [← get_s s k hk]
  exact this.symm
theorem at_next2 {s : ByteArray} {k : Nat} {b c : UInt8} {r : List UInt8} (h : s.data.toList.drop k = b :: c :: r) : k + 1 < s.size ∧ ∀ hk : k + 1 < s.size, s[k + 1] = c := by
  have h1 : s.data.toList.drop (k + 1) = c :: r := by rw [← List.drop_drop, h]; rfl
  exact at_next h1
theorem ext_at {s : ByteArray} {k n : Nat} {l : List UInt8} (h : s.data.toList.drop k = l) : s.extract k (k + n) = bs (l.take n) := bs_eq (by rw [ext_list, ← h, List.drop_take]; congr 1; omega)
set_option maxHeartbeats 1000000 in
theorem rsign_two (b : UInt8) (r : List UInt8) (s : ByteArray) (k : Nat) (w : World) (hs : s.size ≤ 140737488355328) (hl : s.data.toList.drop k = b :: 61 :: r) (hb : b.toNat = 60 ∨ b.toNat = 62) : Calls Tryz.prog 88 #[.string s, .int .i64 k] w fun e w' => e = .returned (.string (bs [b, 61])) ∧ w' = w := by
  obtain ⟨hk, hgA⟩ := at_next hl
  obtain ⟨hk1, hgB⟩ := at_next2 hl
  have hg := hgA hk
  have hg1 := hgB hk1
  clear hgA hgB
  have hk2 : k + 2 ≤ s.size := by omega
  have hq := Lib.hid (show s.extract k (k + 2) = bs [b, 61] from ext_at hl)
  have h61 : ((s[k + 1].toNat : Int) == 61) = true := by rw [hg1]; rfl
  clear hg1
  rcases hb with hb | hb
  · have h60 : ((s[k].toNat : Int) == 60) = true := by rw [hg, hb]; rfl
    have HL := Lib.hid hl
    clear hl hg hb
    go_enter Tryz.func88, Tryz.ntmps88
    go_wp2
    go_ret
    exact ⟨ret_str hq.out, rfl⟩
  · have h60 : ((s[k].toNat : Int) == 60) = false := by rw [hg, hb]; rfl
    have h62 : ((s[k].toNat : Int) == 62) = true := by rw [hg, hb]; rfl
    have HL := Lib.hid hl
    clear hl hg hb
    go_enter Tryz.func88, Tryz.ntmps88
    go_wp2
    go_ret
    exact ⟨ret_str hq.out, rfl⟩
set_option maxHeartbeats 4000000 in
theorem rsign_one (b : UInt8) (r : List UInt8) (s : ByteArray) (k : Nat) (w : World) (hs : s.size ≤ 140737488355328) (hl : s.data.toList.drop k = b :: r) (hb : ¬ ((b.toNat = 60 ∨ b.toNat = 62) ∧ r.head? = some 61)) : Calls Tryz.prog 88 #[.string s, .int .i64 k] w fun e w' => e = .returned (.string (bs (oneW b))) ∧ w' = w := by
  obtain ⟨hk, hgA⟩ := at_next hl
  have hg := Lib.hid (hgA hk)
  clear hgA
  have hk2 : k + 1 ≤ s.size := by omega
  have hq := Lib.hid (show s.extract k (k + 1) = bs [b] from ext_at hl)
  have fin : ∀ c : Int, ((s[k].toNat : Int) == c) = true → (signs.any fun n => (n : Int) == c) = true → (Ending.returned (.string (bs [b])) = .returned (.string (bs (oneW b)))) := fun c h1 h2 => by
    unfold oneW; rw [if_pos (by rw [← hg.out]; exact one_of h1 h2)]
  have hF := Lib.hid fin
  clear fin
  have hN := Lib.hid (show (∀ c ∈ signs, ((s[k].toNat : Int) == ((c : Nat) : Int)) = false) → Ending.returned (.string ⟨#[]⟩) = .returned (.string (bs (oneW b))) from fun h => by
    unfold oneW; rw [if_neg (by rw [← hg.out, one_not h]; simp)]; rfl)
  have HL := Lib.hid hl
  by_cases h2 : k + 1 < s.size
  · have hc : ¬ ((b.toNat = 60 ∨ b.toNat = 62) ∧ s[k + 1].toNat = 61) := fun ⟨h3, h4⟩ => hb ⟨h3, by
      have e : s.data.toList.drop (k + 1) = r := by rw [← List.drop_drop, hl]; rfl
      have e2 := get_s s (k + 1) h2
      rw [← e, List.head?_drop]
      rw [List.getD_eq_getElem?_getD] at e2
      rw [List.getElem?_eq_getElem (by simpa using h2)] at e2 ⊢
      have e3 : s.data.toList[k + 1] = s[k + 1] := e2
      rw [e3, UInt8.toNat_inj.1 (show s[k + 1].toNat = (61 : UInt8).toNat from h4)]⟩
    clear hb hl
    by_cases h60 : b.toNat = 60
    · have h61 : ((s[k + 1].toNat : Int) == 61) = false := by have : ¬ s[k + 1].toNat = 61 := fun e => hc ⟨.inl h60, e⟩
                                                              simp; omega
      have a60 : ((s[k].toNat : Int) == 60) = true := by rw [hg.out, h60]; rfl
      have a1 : ((s[k].toNat : Int)) = 60 := by rw [hg.out, h60]; rfl
      clear hc h60
      go_enter Tryz.func88, Tryz.ntmps88
      go_wp2
      go_ret
      exact ⟨(ret_str hq.out).trans (hF.out _ a60 (by decide)), rfl⟩
    · by_cases h62 : b.toNat = 62
      · have h61 : ((s[k + 1].toNat : Int) == 61) = false := by have : ¬ s[k + 1].toNat = 61 := fun e => hc ⟨.inr h62, e⟩
                                                                simp; omega
        have a60 : ((s[k].toNat : Int) == 62) = true := by rw [hg.out, h62]; rfl
        have a1 : ((s[k].toNat : Int)) = 62 := by rw [hg.out, h62]; rfl
        clear hc h60 h62
        go_enter Tryz.func88, Tryz.ntmps88
        go_wp2
        go_ret
        exact ⟨(ret_str hq.out).trans (hF.out _ a60 (by decide)), rfl⟩
      · have a60 : ((s[k].toNat : Int) == 60) = false := by rw [hg.out]; simp; omega
        have a62 : ((s[k].toNat : Int) == 62) = false := by rw [hg.out]; simp; omega
        clear hc h60 h62
        go_enter Tryz.func88, Tryz.ntmps88
        go_wp2
        all_goals
          go_ret
          first
          | exact ⟨(ret_str hq.out).trans (hF.out 43 (by assumption) (by decide)), rfl⟩
          | exact ⟨(ret_str hq.out).trans (hF.out 45 (by assumption) (by decide)), rfl⟩
          | exact ⟨(ret_str hq.out).trans (hF.out 42 (by assumption) (by decide)), rfl⟩
          | exact ⟨(ret_str hq.out).trans (hF.out 37 (by assumption) (by decide)), rfl⟩
          | exact ⟨(ret_str hq.out).trans (hF.out 124 (by assumption) (by decide)), rfl⟩
          | exact ⟨(ret_str hq.out).trans (hF.out 61 (by assumption) (by decide)), rfl⟩
          | exact ⟨(ret_str hq.out).trans (hF.out 126 (by assumption) (by decide)), rfl⟩
          | exact ⟨(ret_str hq.out).trans (hF.out 60 (by assumption) (by decide)), rfl⟩
          | exact ⟨(ret_str hq.out).trans (hF.out 62 (by assumption) (by decide)), rfl⟩
          | exact ⟨(ret_str hq.out).trans (hF.out 47 (by assumption) (by decide)), rfl⟩
          | exact ⟨(ret_str hq.out).trans (hF.out 92 (by assumption) (by decide)), rfl⟩
          | exact ⟨(ret_str hq.out).trans (hF.out 46 (by assumption) (by decide)), rfl⟩
          | exact ⟨(ret_str hq.out).trans (hF.out 58 (by assumption) (by decide)), rfl⟩
          | exact ⟨(ret_str hq.out).trans (hF.out 40 (by assumption) (by decide)), rfl⟩
          | exact ⟨(ret_str hq.out).trans (hF.out 41 (by assumption) (by decide)), rfl⟩
          | (refine ⟨hN.out fun c hc => ?_, rfl⟩
             simp only [signs, List.mem_cons, List.not_mem_nil, or_false] at hc
             rcases hc with rfl | rfl | rfl | rfl | rfl | rfl | rfl | rfl | rfl | rfl | rfl | rfl | rfl | rfl | rfl <;> assumption)
  · clear hb hl
    go_enter Tryz.func88, Tryz.ntmps88
    go_wp2
    all_goals
      go_ret
      first
      | exact ⟨(ret_str hq.out).trans (hF.out 43 (by assumption) (by decide)), rfl⟩
      | exact ⟨(ret_str hq.out).trans (hF.out 45 (by assumption) (by decide)), rfl⟩
      | exact ⟨(ret_str hq.out).trans (hF.out 42 (by assumption) (by decide)), rfl⟩
      | exact ⟨(ret_str hq.out).trans (hF.out 37 (by assumption) (by decide)), rfl⟩
      | exact ⟨(ret_str hq.out).trans (hF.out 124 (by assumption) (by decide)), rfl⟩
      | exact ⟨(ret_str hq.out).trans (hF.out 61 (by assumption) (by decide)), rfl⟩
      | exact ⟨(ret_str hq.out).trans (hF.out 126 (by assumption) (by decide)), rfl⟩
      | exact ⟨(ret_str hq.out).trans (hF.out 60 (by assumption) (by decide)), rfl⟩
      | exact ⟨(ret_str hq.out).trans (hF.out 62 (by assumption) (by decide)), rfl⟩
      | exact ⟨(ret_str hq.out).trans (hF.out 47 (by assumption) (by decide)), rfl⟩
      | exact ⟨(ret_str hq.out).trans (hF.out 92 (by assumption) (by decide)), rfl⟩
      | exact ⟨(ret_str hq.out).trans (hF.out 46 (by assumption) (by decide)), rfl⟩
      | exact ⟨(ret_str hq.out).trans (hF.out 58 (by assumption) (by decide)), rfl⟩
      | exact ⟨(ret_str hq.out).trans (hF.out 40 (by assumption) (by decide)), rfl⟩
      | exact ⟨(ret_str hq.out).trans (hF.out 41 (by assumption) (by decide)), rfl⟩
      | (refine ⟨hN.out fun c hc => ?_, rfl⟩
         simp only [signs, List.mem_cons, List.not_mem_nil, or_false] at hc
         rcases hc with rfl | rfl | rfl | rfl | rfl | rfl | rfl | rfl | rfl | rfl | rfl | rfl | rfl | rfl | rfl <;> assumption)
end Go.Proofs.YtbapgdhcbfpdoaaGreatDoor
/- Contract of the document's answers for layer 3: Next. -/
namespace Go.Proofs.YtbapgdhcbfpdoaaGreatDoor
open Go.RowKit

theorem rsign_any (b : UInt8) (r : List UInt8) (s : ByteArray) (k : Nat) (w : World) (hs : s.size ≤ 140737488355328) (hl : s.data.toList.drop k = b :: r) (x : List UInt8) (hx : signW b r = x) : Calls Tryz.prog 88 #[.string s, .int .i64 k] w fun e w' => e = .returned (.string (bs x)) ∧ w' = w := by
  subst hx
  unfold signW
  by_cases hb : (b.toNat = 60 ∨ b.toNat = 62) ∧ r.head? = some 61
  · rw [if_pos hb]
    cases r with
    | nil => simp at hb
    | cons c r =>
      obtain ⟨h1, h2⟩ := hb
      simp at h2
      subst h2
      exact rsign_two b r s k w hs hl h1
  · rw [if_neg hb]; exact rsign_one b r s k w hs hl hb
def nextR (k : Nat) (b : UInt8) (r : List UInt8) : Tk × Int × Int := match piece b r with
  | .tok kd w v n => (⟨kd, k, w, v⟩, (k + 1 + n : Nat), 0)
  | .bad e => (tk0, 0, e)
  | .skip _ => (tk0, 0, 31)
theorem tri {t : Tk} {a b e : Int} (h : a = b) : (t, a, e) = (t, b, e) := by rw [h]
theorem next_tok {k : Nat} {b : UInt8} {r : List UInt8} {kd v : Int} {w : List UInt8} {n : Nat} (h : piece b r = .tok kd w v n) : nextR k b r = ((⟨kd, k, w, v⟩ : Tk), ((k + 1 + n : Nat) : Int), (0 : Int)) := by unfold nextR; rw [h]
theorem next_bad {k : Nat} {b : UInt8} {r : List UInt8} {e : Int} (h : piece b r = .bad e) : nextR k b r = (tk0, (0 : Int), e) := by unfold nextR; rw [h]
theorem end_aln (s : ByteArray) (k : Nat) (w : World) (n : Nat) (hs : s.size ≤ 140737488355328) (hk : k ≤ s.size) (hn : run alnB (s.data.toList.drop k) = n) : Calls Tryz.prog 86 #[.string s, .int .i64 k, .bool true] w fun e w' => e = .returned (.int .i64 (k + n)) ∧ w' = w := by
  subst hn; exact rend_aln s k w hs hk
theorem end_dig (s : ByteArray) (k : Nat) (w : World) (i : Int) (n : Int) (hs : s.size ≤ 140737488355328) (hk : k ≤ s.size) (hi : (k : Int) = i) (hn : ((k + run digB (s.data.toList.drop k) : Nat) : Int) = n) : Calls Tryz.prog 86 #[.string s, .int .i64 i, .bool false] w fun e w' => e = .returned (.int .i64 n) ∧ w' = w := by
  subst hn hi; exact rend_dig s k w hs hk
theorem value_at (neg : Bool) (ds : List UInt8) (w : World) (v : Int) (x : Bool) (hs : ds.length ≤ 140737488355328) (hd : ∀ c ∈ ds, digB c = true) (hv : (numR neg ds).getD 0 = v) (hx : (numR neg ds).isSome = x) : Calls Tryz.prog 87 #[.string (bs ds), .bool neg] w fun e w' => e = .returned (.tuple #[.int .i64 v, .bool x]) ∧ w' = w := by
  subst hv hx
  cases neg
  · have h := rvalue_pos (bs ds) w (by rw [bs_size]; exact hs) (by rw [bs_list]; exact hd)
    rw [bs_list] at h
    exact h
  · have h := rvalue_neg (bs ds) w (by rw [bs_size]; exact hs) (by rw [bs_list]; exact hd)
    rw [bs_list] at h
    exact h
theorem drop_succ {l : List UInt8} {k : Nat} {b : UInt8} {r : List UInt8} (h : l.drop k = b :: r) : l.drop (k + 1) = r := by rw [← List.drop_drop, h]; rfl
theorem drop_len {s : ByteArray} {k : Nat} {b : UInt8} {r : List UInt8} (h : s.data.toList.drop k = b :: r) : k + (r.length + 1) = s.size := by
  have h1 := (at_next h).1
  have := congrArg List.length h; rw [List.length_drop, len_s] at this; simp at this; omega
set_option maxHeartbeats 800000 in
theorem next_line (b : UInt8) (r : List UInt8) (s : ByteArray) (k : Nat) (w : World) (hs : s.size ≤ 140737488355328) (hl : s.data.toList.drop k = b :: r) (hb : b.toNat = 10) : Calls Tryz.prog 67 #[.string s, .int .i64 k] w (Answers w (nextR k b r)) := by
  have hL := Lib.hid hl
  obtain ⟨hk, hgA⟩ := at_next hl
  have hg := hgA hk
  clear hgA
  have hkz := drop_len hl
  have hx := Lib.hid (next_tok (k := k) (show piece b r = .tok 4 [] 0 0 by unfold piece; rw [if_neg (by unfold blB; simp [hb]), if_neg (by omega), if_pos hb]))
  have h10 : ((s[k].toNat : Int) == 10) = true := by rw [hg, hb]; rfl
  have hG := Lib.hid hg
  clear hl
  clear hg hb
  go_enter Tryz.func67, Tryz.ntmps67
  go_wp2
  have hfin : Answers w (nextR k b r) (.returned (.tuple #[.agg #[.int .i64 4, .int .i64 k, .string (bs []), .int .i64 0], .int .i64 ((k : Int) + 1), .int .i64 0])) (w.alloc (.cells #[.int .i64 4, .int .i64 k, .string (bs []), .int .i64 0] 56)) := by
    rw [hx.out]
    exact ⟨rfl, (Below.refl _ _).alloc (Nat.le_refl _) _⟩
  exact bodyPost_ret (by simp [results, Tryz.results67, go_sem, bs]) rfl hfin
set_option maxHeartbeats 800000 in
theorem next_word_far (b : UInt8) (r : List UInt8) (s : ByteArray) (k : Nat) (w : World) (hs : s.size ≤ 140737488355328) (hl : s.data.toList.drop k = b :: r) (h0 : blB b = false ∧ b.toNat ≠ 35) (h10 : b.toNat ≠ 10) (hb : letB b = true) (hn : 15 < run alnB r) : Calls Tryz.prog 67 #[.string s, .int .i64 k] w (Answers w (nextR k b r)) := by
  have hL := Lib.hid hl
  obtain ⟨hk, hgA⟩ := at_next hl
  have hg := hgA hk
  clear hgA
  have hkz := drop_len hl
  have hx := Lib.hid (next_bad (k := k) (show piece b r = .bad 33 by unfold piece; rw [if_neg (by rw [h0.1]; simp), if_neg h0.2, if_neg h10, if_pos hb, if_pos hn]))
  have hx2 := Lib.hid (hx.out)
  have hrun := (show run alnB (s.data.toList.drop k) = run alnB r + 1 by rw [hl, run_cons, if_pos (by unfold alnB; rw [hb]; rfl)])
  have hrl : run alnB r ≤ r.length := run_le _ _
  have h10' : ((s[k].toNat : Int) == 10) = false := by rw [hg]; simp; omega
  have hb' : letB s[k] = true := by rw [hg]; exact hb
  have hq := Lib.hid (show s.extract k (k + (run alnB r + 1)) = bs (b :: r.take (run alnB r)) from (ext_at hl).trans rfl)
  have hrn := Lib.hid hrun
  have hG := Lib.hid hg
  clear hl
  clear hg hb h10 h0 hrun
  go_enter Tryz.func67, Tryz.ntmps67
  go_wp2_with (first | (go_at_call 85; refine (rletter_any s[k] _).mono ?_; rintro e w' ⟨rfl, rfl⟩) | (go_at_call 86; refine (end_aln s k _ (run alnB r + 1) hs (by omega) hrn.out).mono ?_; rintro e w' ⟨rfl, rfl⟩))
  exact bodyPost_ret (v := .tuple #[.agg #[.int .i64 0, .int .i64 0, .string (bs []), .int .i64 0], .int .i64 0, .int .i64 33]) (by simp [results, Tryz.results67, go_sem, bs]) rfl (none_ret hx.out ((Below.refl _ _).alloc (Nat.le_refl _) _))
set_option maxHeartbeats 800000 in
theorem next_word_ok (b : UInt8) (r : List UInt8) (s : ByteArray) (k : Nat) (w : World) (hs : s.size ≤ 140737488355328) (hl : s.data.toList.drop k = b :: r) (h0 : blB b = false ∧ b.toNat ≠ 35) (h10 : b.toNat ≠ 10) (hb : letB b = true) (hn : ¬ 15 < run alnB r) : Calls Tryz.prog 67 #[.string s, .int .i64 k] w (Answers w (nextR k b r)) := by
  have hL := Lib.hid hl
  obtain ⟨hk, hgA⟩ := at_next hl
  have hg := hgA hk
  clear hgA
  have hkz := drop_len hl
  have hx := Lib.hid (next_tok (k := k) (show piece b r = .tok 1 (b :: r.take (run alnB r)) 0 (run alnB r) by unfold piece; rw [if_neg (by rw [h0.1]; simp), if_neg h0.2, if_neg h10, if_pos hb, if_neg hn]))
  have hx2 := Lib.hid (hx.out.trans (tri (show _ = (k : Int) + ((run alnB r : Nat) + 1) by omega)))
  have hrun := (show run alnB (s.data.toList.drop k) = run alnB r + 1 by rw [hl, run_cons, if_pos (by unfold alnB; rw [hb]; rfl)])
  have hrl : run alnB r ≤ r.length := run_le _ _
  have h10' : ((s[k].toNat : Int) == 10) = false := by rw [hg]; simp; omega
  have hb' : letB s[k] = true := by rw [hg]; exact hb
  have hq := Lib.hid (show s.extract k (k + (run alnB r + 1)) = bs (b :: r.take (run alnB r)) from (ext_at hl).trans rfl)
  have hrn := Lib.hid hrun
  have hG := Lib.hid hg
  clear hl
  clear hg hb h10 h0 hrun
  go_enter Tryz.func67, Tryz.ntmps67
  go_wp2_with (first | (go_at_call 85; refine (rletter_any s[k] _).mono ?_; rintro e w' ⟨rfl, rfl⟩) | (go_at_call 86; refine (end_aln s k _ (run alnB r + 1) hs (by omega) hrn.out).mono ?_; rintro e w' ⟨rfl, rfl⟩))
  have hfin : Answers w (nextR k b r) (.returned (.tuple #[.agg #[.int .i64 1, .int .i64 k, .string (s.extract k (k + (run alnB r + 1))), .int .i64 0], .int .i64 ((k : Int) + ((run alnB r : Nat) + 1)), .int .i64 0])) (w.alloc (.cells #[.int .i64 1, .int .i64 k, .string (s.extract k (k + (run alnB r + 1))), .int .i64 0] 56)) := by
    rw [hx2.out, hq.out]
    exact ⟨rfl, (Below.refl _ _).alloc (Nat.le_refl _) _⟩
  exact bodyPost_ret (by simp [results, Tryz.results67, go_sem]) rfl hfin
set_option maxHeartbeats 800000 in
theorem next_num_neg_ok (b : UInt8) (r : List UInt8) (s : ByteArray) (k : Nat) (w : World) (hs : s.size ≤ 140737488355328) (hl : s.data.toList.drop k = b :: r) (v : Int) (h0 : blB b = false ∧ b.toNat ≠ 35) (hb : b.toNat = 95) (hd : 0 < run digB r) (hv : numR true (r.take (run digB r)) = some v) : Calls Tryz.prog 67 #[.string s, .int .i64 k] w (Answers w (nextR k b r)) := by
  have hL := Lib.hid hl
  obtain ⟨hk, hgA⟩ := at_next hl
  have hg := hgA hk
  clear hgA
  have hkz := drop_len hl
  have hlt : letB b = false := by unfold letB; simp; omega
  have hx := Lib.hid (next_tok (k := k) (show piece b r = .tok 2 [] v (run digB r) by unfold piece; rw [if_neg (by rw [h0.1]; simp), if_neg h0.2, if_neg (by omega), if_neg (by rw [hlt]; simp), if_neg (by rw [dig95 hb]; simp), if_pos ⟨hb, hd⟩, hv]; rfl))
  have hrl : run digB r ≤ r.length := run_le _ _
  have hx2 := Lib.hid (hx.out.trans (tri (show _ = (k : Int) + 1 + (run digB r : Nat) by omega)))
  have h10' : ((s[k].toNat : Int) == 10) = false := by rw [hg]; simp; omega
  have hb' : letB s[k] = false := by rw [hg]; exact hlt
  have h95 : ((s[k].toNat : Int) == 95) = true := by rw [hg, hb]; rfl
  have hds := drop_succ hl
  have hrn := Lib.hid (show (((k + 1) + run digB (s.data.toList.drop (k + 1)) : Nat) : Int) = (k : Int) + 1 + (run digB r : Nat) by rw [hds]; omega)
  have hq := show s.extract (k + 1) (k + 1 + run digB r) = bs (r.take (run digB r)) from ext_at hds
  have hall := Lib.hid (run_all digB r)
  have hrp : (0 : Int) < (run digB r : Nat) := by omega
  have hdk : decide ((k : Int) < (k : Int) + 1) = true := decide_eq_true (by omega)
  have hki := Lib.hid (show ((k + 1 : Nat) : Int) = (k : Int) + 1 by omega)
  have hdl : (r.take (run digB r)).length ≤ 140737488355328 := by simp; omega
  have hv1 := Lib.hid (show (numR true (r.take (run digB r))).getD 0 = v by rw [hv]; rfl)
  have hv2 := Lib.hid (show (numR true (r.take (run digB r))).isSome = true by rw [hv]; rfl)
  have hG := Lib.hid hg
  clear hl
  clear hg hb h0 hlt hv hds
  go_enter Tryz.func67, Tryz.ntmps67
  go_wp2_with (first | (go_at_call 85; refine (rletter_any s[k] _).mono ?_; rintro e w' ⟨rfl, rfl⟩) | (go_at_call 86; refine (end_dig s (k + 1) _ _ _ hs (by omega) hki.out hrn.out).mono ?_; rintro e w' ⟨rfl, rfl⟩) | (go_at_call 87; refine (value_at true (r.take (run digB r)) _ _ _ hdl hall.out hv1.out hv2.out).mono ?_; rintro e w' ⟨rfl, rfl⟩))
  have hfin : Answers w (nextR k b r) (.returned (.tuple #[.agg #[.int .i64 2, .int .i64 k, .string (bs []), .int .i64 v], .int .i64 ((k : Int) + 1 + (run digB r : Nat)), .int .i64 0])) (w.alloc (.cells #[.int .i64 2, .int .i64 k, .string (bs []), .int .i64 v] 56)) := by
    rw [hx2.out]
    exact ⟨rfl, (Below.refl _ _).alloc (Nat.le_refl _) _⟩
  exact bodyPost_ret (by simp [results, Tryz.results67, go_sem, bs]) rfl hfin
set_option maxHeartbeats 800000 in
theorem next_num_neg_far (b : UInt8) (r : List UInt8) (s : ByteArray) (k : Nat) (w : World) (hs : s.size ≤ 140737488355328) (hl : s.data.toList.drop k = b :: r) (h0 : blB b = false ∧ b.toNat ≠ 35) (hb : b.toNat = 95) (hd : 0 < run digB r) (hv : numR true (r.take (run digB r)) = none) : Calls Tryz.prog 67 #[.string s, .int .i64 k] w (Answers w (nextR k b r)) := by
  have hL := Lib.hid hl
  obtain ⟨hk, hgA⟩ := at_next hl
  have hg := hgA hk
  clear hgA
  have hkz := drop_len hl
  have hlt : letB b = false := by unfold letB; simp; omega
  have hx := Lib.hid (next_bad (k := k) (show piece b r = .bad 32 by unfold piece; rw [if_neg (by rw [h0.1]; simp), if_neg h0.2, if_neg (by omega), if_neg (by rw [hlt]; simp), if_neg (by rw [dig95 hb]; simp), if_pos ⟨hb, hd⟩, hv]; rfl))
  have hrl : run digB r ≤ r.length := run_le _ _
  have h10' : ((s[k].toNat : Int) == 10) = false := by rw [hg]; simp; omega
  have hb' : letB s[k] = false := by rw [hg]; exact hlt
  have h95 : ((s[k].toNat : Int) == 95) = true := by rw [hg, hb]; rfl
  have hds := drop_succ hl
  have hrn := Lib.hid (show (((k + 1) + run digB (s.data.toList.drop (k + 1)) : Nat) : Int) = (k : Int) + 1 + (run digB r : Nat) by rw [hds]; omega)
  have hq := show s.extract (k + 1) (k + 1 + run digB r) = bs (r.take (run digB r)) from ext_at hds
  have hall := Lib.hid (run_all digB r)
  have hrp : (0 : Int) < (run digB r : Nat) := by omega
  have hdk : decide ((k : Int) < (k : Int) + 1) = true := decide_eq_true (by omega)
  have hki := Lib.hid (show ((k + 1 : Nat) : Int) = (k : Int) + 1 by omega)
  have hdl : (r.take (run digB r)).length ≤ 140737488355328 := by simp; omega
  have hv1 := Lib.hid (show (numR true (r.take (run digB r))).getD 0 = 0 by rw [hv]; rfl)
  have hv2 := Lib.hid (show (numR true (r.take (run digB r))).isSome = false by rw [hv]; rfl)
  have hG := Lib.hid hg
  clear hl
  clear hg hb h0 hlt hv hds
  go_enter Tryz.func67, Tryz.ntmps67
  go_wp2_with (first | (go_at_call 85; refine (rletter_any s[k] _).mono ?_; rintro e w' ⟨rfl, rfl⟩) | (go_at_call 86; refine (end_dig s (k + 1) _ _ _ hs (by omega) hki.out hrn.out).mono ?_; rintro e w' ⟨rfl, rfl⟩) | (go_at_call 87; refine (value_at true (r.take (run digB r)) _ _ _ hdl hall.out hv1.out hv2.out).mono ?_; rintro e w' ⟨rfl, rfl⟩))
  exact bodyPost_ret (v := .tuple #[.agg #[.int .i64 0, .int .i64 0, .string (bs []), .int .i64 0], .int .i64 0, .int .i64 32]) (by simp [results, Tryz.results67, go_sem, bs]) rfl (none_ret hx.out ((Below.refl _ _).alloc (Nat.le_refl _) _))
set_option maxHeartbeats 800000 in
theorem next_num_pos_ok (b : UInt8) (r : List UInt8) (s : ByteArray) (k : Nat) (w : World) (hs : s.size ≤ 140737488355328) (hl : s.data.toList.drop k = b :: r) (v : Int) (h0 : blB b = false ∧ b.toNat ≠ 35) (hb : digB b = true) (hv : numR false (b :: r.take (run digB r)) = some v) : Calls Tryz.prog 67 #[.string s, .int .i64 k] w (Answers w (nextR k b r)) := by
  have hL := Lib.hid hl
  obtain ⟨hk, hgA⟩ := at_next hl
  have hg := hgA hk
  clear hgA
  have hkz := drop_len hl
  have hbb := (digB_iff b).1 hb
  have hlt : letB b = false := by unfold letB; simp; omega
  have hx := Lib.hid (next_tok (k := k) (show piece b r = .tok 2 [] v (run digB r) by unfold piece; rw [if_neg (by rw [h0.1]; simp), if_neg h0.2, if_neg (by omega), if_neg (by rw [hlt]; simp), if_pos hb, hv]; rfl))
  have hrl : run digB r ≤ r.length := run_le _ _
  have hx2 := Lib.hid (hx.out.trans (tri (show _ = (k : Int) + ((run digB r : Nat) + 1) by omega)))
  have h10' : ((s[k].toNat : Int) == 10) = false := by rw [hg]; simp; omega
  have hb' : letB s[k] = false := by rw [hg]; exact hlt
  have h95 : ((s[k].toNat : Int) == 95) = false := by rw [hg]; simp; omega
  have hrn := Lib.hid (show ((k + run digB (s.data.toList.drop k) : Nat) : Int) = (k : Int) + ((run digB r : Nat) + 1) by rw [hl, run_cons, if_pos hb]; omega)
  have hq := show s.extract k (k + (run digB r + 1)) = bs (b :: r.take (run digB r)) from (ext_at hl).trans rfl
  have hall := Lib.hid (show ∀ d ∈ b :: r.take (run digB r), digB d = true from fun d hm => by
    rcases List.mem_cons.1 hm with rfl | hm
    · exact hb
    · exact run_all _ _ d hm)
  have hdl : (b :: r.take (run digB r)).length ≤ 140737488355328 := by simp; omega
  have hv1 := Lib.hid (show (numR false (b :: r.take (run digB r))).getD 0 = v by rw [hv]; rfl)
  have hv2 := Lib.hid (show (numR false (b :: r.take (run digB r))).isSome = true by rw [hv]; rfl)
  have hG := Lib.hid hg
  clear hl
  clear hg hb h0 hlt hv hbb
  go_enter Tryz.func67, Tryz.ntmps67
  go_wp2_with (first | (go_at_call 85; refine (rletter_any s[k] _).mono ?_; rintro e w' ⟨rfl, rfl⟩) | (go_at_call 86; refine (end_dig s k _ _ _ hs (by omega) rfl hrn.out).mono ?_; rintro e w' ⟨rfl, rfl⟩) | (go_at_call 87; refine (value_at false (b :: r.take (run digB r)) _ _ _ hdl hall.out hv1.out hv2.out).mono ?_; rintro e w' ⟨rfl, rfl⟩))
  have hfin : Answers w (nextR k b r) (.returned (.tuple #[.agg #[.int .i64 2, .int .i64 k, .string (bs []), .int .i64 v], .int .i64 ((k : Int) + ((run digB r : Nat) + 1)), .int .i64 0])) (w.alloc (.cells #[.int .i64 2, .int .i64 k, .string (bs []), .int .i64 v] 56)) := by
    rw [hx2.out]
    exact ⟨rfl, (Below.refl _ _).alloc (Nat.le_refl _) _⟩
  exact bodyPost_ret (by simp [results, Tryz.results67, go_sem, bs]) rfl hfin
set_option maxHeartbeats 800000 in
theorem next_num_pos_far (b : UInt8) (r : List UInt8) (s : ByteArray) (k : Nat) (w : World) (hs : s.size ≤ 140737488355328) (hl : s.data.toList.drop k = b :: r) (h0 : blB b = false ∧ b.toNat ≠ 35) (hb : digB b = true) (hv : numR false (b :: r.take (run digB r)) = none) : Calls Tryz.prog 67 #[.string s, .int .i64 k] w (Answers w (nextR k b r)) := by
  have hL := Lib.hid hl
  obtain ⟨hk, hgA⟩ := at_next hl
  have hg := hgA hk
  clear hgA
  have hkz := drop_len hl
  have hbb := (digB_iff b).1 hb
  have hlt : letB b = false := by unfold letB; simp; omega
  have hx := Lib.hid (next_bad (k := k) (show piece b r = .bad 32 by unfold piece; rw [if_neg (by rw [h0.1]; simp), if_neg h0.2, if_neg (by omega), if_neg (by rw [hlt]; simp), if_pos hb, hv]; rfl))
  have hrl : run digB r ≤ r.length := run_le _ _
  have h10' : ((s[k].toNat : Int) == 10) = false := by rw [hg]; simp; omega
  have hb' : letB s[k] = false := by rw [hg]; exact hlt
  have h95 : ((s[k].toNat : Int) == 95) = false := by rw [hg]; simp; omega
  have hrn := Lib.hid (show ((k + run digB (s.data.toList.drop k) : Nat) : Int) = (k : Int) + ((run digB r : Nat) + 1) by rw [hl, run_cons, if_pos hb]; omega)
  have hq := show s.extract k (k + (run digB r + 1)) = bs (b :: r.take (run digB r)) from (ext_at hl).trans rfl
  have hall := Lib.hid (show ∀ d ∈ b :: r.take (run digB r), digB d = true from fun d hm => by
    rcases List.mem_cons.1 hm with rfl | hm
    · exact hb
    · exact run_all _ _ d hm)
  have hdl : (b :: r.take (run digB r)).length ≤ 140737488355328 := by simp; omega
  have hv1 := Lib.hid (show (numR false (b :: r.take (run digB r))).getD 0 = 0 by rw [hv]; rfl)
  have hv2 := Lib.hid (show (numR false (b :: r.take (run digB r))).isSome = false by rw [hv]; rfl)
  have hG := Lib.hid hg
  clear hl
  clear hg hb h0 hlt hv hbb
  go_enter Tryz.func67, Tryz.ntmps67
  go_wp2_with (first | (go_at_call 85; refine (rletter_any s[k] _).mono ?_; rintro e w' ⟨rfl, rfl⟩) | (go_at_call 86; refine (end_dig s k _ _ _ hs (by omega) rfl hrn.out).mono ?_; rintro e w' ⟨rfl, rfl⟩) | (go_at_call 87; refine (value_at false (b :: r.take (run digB r)) _ _ _ hdl hall.out hv1.out hv2.out).mono ?_; rintro e w' ⟨rfl, rfl⟩))
  exact bodyPost_ret (v := .tuple #[.agg #[.int .i64 0, .int .i64 0, .string (bs []), .int .i64 0], .int .i64 0, .int .i64 32]) (by simp [results, Tryz.results67, go_sem, bs]) rfl (none_ret hx.out ((Below.refl _ _).alloc (Nat.le_refl _) _))
set_option maxHeartbeats 800000 in
theorem next_sign_two (b : UInt8) (r : List UInt8) (s : ByteArray) (k : Nat) (w : World) (hs : s.size ≤ 140737488355328) (hl : s.data.toList.drop k = b :: r) (h0 : blB b = false ∧ b.toNat ≠ 35) (h10 : b.toNat ≠ 10) (hlt : letB b = false) (hd : digB b = false) (h95 : b.toNat ≠ 95) (hb : (b.toNat = 60 ∨ b.toNat = 62) ∧ r.head? = some 61) : Calls Tryz.prog 67 #[.string s, .int .i64 k] w (Answers w (nextR k b r)) := by
  have hL := Lib.hid hl
  obtain ⟨hk, hgA⟩ := at_next hl
  have hg := hgA hk
  clear hgA
  have hkz := drop_len hl
  have h95u := Lib.hid h95
  have hx := Lib.hid (next_tok (k := k) (show piece b r = .tok 3 [b, 61] 0 1 by unfold piece; rw [if_neg (by rw [h0.1]; simp), if_neg h0.2, if_neg h10, if_neg (by rw [hlt]; simp), if_neg (by rw [hd]; simp), if_neg (by rintro ⟨e1, e2⟩; omega), if_pos hb]))
  have hx2 := Lib.hid (hx.out.trans (tri (show _ = (k : Int) + 2 by omega)))
  have hsg := Lib.hid (show signW b r = [b, 61] by unfold signW; rw [if_pos hb])
  have h10' : ((s[k].toNat : Int) == 10) = false := by rw [hg]; simp; omega
  have hb' : letB s[k] = false := by rw [hg]; exact hlt
  have h95' : ((s[k].toNat : Int) == 95) = false := by rw [hg]; simp; omega
  have hrn := Lib.hid (show ((k + run digB (s.data.toList.drop k) : Nat) : Int) = (k : Int) by rw [hl, run_cons, hd]; simp)
  have hem := bs_empty (l := [b, 61]) (by simp)
  have hzz : (bs [b, 61]).size = 2 := bs_size _
  have hG := Lib.hid hg
  clear hl
  clear hg h0 hlt hd h10 h95 hb
  go_enter Tryz.func67, Tryz.ntmps67
  go_wp2_with (first | (go_at_call 85; refine (rletter_any s[k] _).mono ?_; rintro e w' ⟨rfl, rfl⟩) | (go_at_call 86; refine (end_dig s k _ _ _ hs (by omega) rfl hrn.out).mono ?_; rintro e w' ⟨rfl, rfl⟩) | (go_at_call 88; refine (rsign_any b r s k _ hs hL.out _ hsg.out).mono ?_; rintro e w' ⟨rfl, rfl⟩))
  have hfin : Answers w (nextR k b r) (.returned (.tuple #[.agg #[.int .i64 3, .int .i64 k, .string (bs [b, 61]), .int .i64 0], .int .i64 ((k : Int) + 2), .int .i64 0])) (w.alloc (.cells #[.int .i64 3, .int .i64 k, .string (bs [b, 61]), .int .i64 0] 56)) := by
    rw [hx2.out]
    exact ⟨rfl, (Below.refl _ _).alloc (Nat.le_refl _) _⟩
  exact bodyPost_ret (by simp [results, Tryz.results67, go_sem]) rfl hfin
set_option maxHeartbeats 800000 in
theorem next_sign_one (b : UInt8) (r : List UInt8) (s : ByteArray) (k : Nat) (w : World) (hs : s.size ≤ 140737488355328) (hl : s.data.toList.drop k = b :: r) (h0 : blB b = false ∧ b.toNat ≠ 35) (h10 : b.toNat ≠ 10) (hlt : letB b = false) (hd : digB b = false) (h95 : b.toNat ≠ 95) (hb : ¬ ((b.toNat = 60 ∨ b.toNat = 62) ∧ r.head? = some 61)) (ho : oneB b = true) : Calls Tryz.prog 67 #[.string s, .int .i64 k] w (Answers w (nextR k b r)) := by
  have hL := Lib.hid hl
  obtain ⟨hk, hgA⟩ := at_next hl
  have hg := hgA hk
  clear hgA
  have hkz := drop_len hl
  have h95u := Lib.hid h95
  have hx := Lib.hid (next_tok (k := k) (show piece b r = .tok 3 [b] 0 0 by unfold piece; rw [if_neg (by rw [h0.1]; simp), if_neg h0.2, if_neg h10, if_neg (by rw [hlt]; simp), if_neg (by rw [hd]; simp), if_neg (by rintro ⟨e1, e2⟩; omega), if_neg hb, if_pos ho]))
  have hx2 := Lib.hid (hx.out.trans (tri (show _ = (k : Int) + 1 by omega)))
  have hsg := Lib.hid (show signW b r = [b] by unfold signW; rw [if_neg hb]; unfold oneW; rw [if_pos ho])
  have h10' : ((s[k].toNat : Int) == 10) = false := by rw [hg]; simp; omega
  have hb' : letB s[k] = false := by rw [hg]; exact hlt
  have h95' : ((s[k].toNat : Int) == 95) = false := by rw [hg]; simp; omega
  have hrn := Lib.hid (show ((k + run digB (s.data.toList.drop k) : Nat) : Int) = (k : Int) by rw [hl, run_cons, hd]; simp)
  have hem := bs_empty (l := [b]) (by simp)
  have hzz : (bs [b]).size = 1 := bs_size _
  have hG := Lib.hid hg
  clear hl
  clear hg h0 hlt hd h10 h95 hb ho
  go_enter Tryz.func67, Tryz.ntmps67
  go_wp2_with (first | (go_at_call 85; refine (rletter_any s[k] _).mono ?_; rintro e w' ⟨rfl, rfl⟩) | (go_at_call 86; refine (end_dig s k _ _ _ hs (by omega) rfl hrn.out).mono ?_; rintro e w' ⟨rfl, rfl⟩) | (go_at_call 88; refine (rsign_any b r s k _ hs hL.out _ hsg.out).mono ?_; rintro e w' ⟨rfl, rfl⟩))
  have hfin : Answers w (nextR k b r) (.returned (.tuple #[.agg #[.int .i64 3, .int .i64 k, .string (bs [b]), .int .i64 0], .int .i64 ((k : Int) + 1), .int .i64 0])) (w.alloc (.cells #[.int .i64 3, .int .i64 k, .string (bs [b]), .int .i64 0] 56)) := by
    rw [hx2.out]
    exact ⟨rfl, (Below.refl _ _).alloc (Nat.le_refl _) _⟩
  exact bodyPost_ret (by simp [results, Tryz.results67, go_sem]) rfl hfin
set_option maxHeartbeats 800000 in
theorem next_sign_none (b : UInt8) (r : List UInt8) (s : ByteArray) (k : Nat) (w : World) (hs : s.size ≤ 140737488355328) (hl : s.data.toList.drop k = b :: r) (h0 : blB b = false ∧ b.toNat ≠ 35) (h10 : b.toNat ≠ 10) (hlt : letB b = false) (hd : digB b = false) (h95 : b.toNat ≠ 95) (hb : ¬ ((b.toNat = 60 ∨ b.toNat = 62) ∧ r.head? = some 61)) (ho : oneB b = false) : Calls Tryz.prog 67 #[.string s, .int .i64 k] w (Answers w (nextR k b r)) := by
  have hL := Lib.hid hl
  obtain ⟨hk, hgA⟩ := at_next hl
  have hg := hgA hk
  clear hgA
  have hkz := drop_len hl
  have h95u := Lib.hid h95
  have hx := Lib.hid (next_bad (k := k) (show piece b r = .bad 31 by unfold piece; rw [if_neg (by rw [h0.1]; simp), if_neg h0.2, if_neg h10, if_neg (by rw [hlt]; simp), if_neg (by rw [hd]; simp), if_neg (by rintro ⟨e1, e2⟩; omega), if_neg hb, if_neg (by rw [ho]; simp)]))
  have hsg := Lib.hid (show signW b r = [] by unfold signW; rw [if_neg hb]; unfold oneW; rw [if_neg (by rw [ho]; simp)])
  have h10' : ((s[k].toNat : Int) == 10) = false := by rw [hg]; simp; omega
  have hb' : letB s[k] = false := by rw [hg]; exact hlt
  have h95' : ((s[k].toNat : Int) == 95) = false := by rw [hg]; simp; omega
  have hrn := Lib.hid (show ((k + run digB (s.data.toList.drop k) : Nat) : Int) = (k : Int) by rw [hl, run_cons, hd]; simp)
  have hem : (bs []).toList.isEmpty = true := by rw [ByteArray.toList_eq, bs_list]; rfl
  have hG := Lib.hid hg
  clear hl
  clear hg h0 hlt hd h10 h95 hb ho
  go_enter Tryz.func67, Tryz.ntmps67
  go_wp2_with (first | (go_at_call 85; refine (rletter_any s[k] _).mono ?_; rintro e w' ⟨rfl, rfl⟩) | (go_at_call 86; refine (end_dig s k _ _ _ hs (by omega) rfl hrn.out).mono ?_; rintro e w' ⟨rfl, rfl⟩) | (go_at_call 88; refine (rsign_any b r s k _ hs hL.out _ hsg.out).mono ?_; rintro e w' ⟨rfl, rfl⟩))
  exact bodyPost_ret (v := .tuple #[.agg #[.int .i64 0, .int .i64 0, .string (bs []), .int .i64 0], .int .i64 0, .int .i64 31]) (by simp [results, Tryz.results67, go_sem, bs]) rfl (none_ret hx.out ((Below.refl _ _).alloc (Nat.le_refl _) _))
set_option maxHeartbeats 800000 in
theorem next_sign_none95 (b : UInt8) (r : List UInt8) (s : ByteArray) (k : Nat) (w : World) (hs : s.size ≤ 140737488355328) (hl : s.data.toList.drop k = b :: r) (h0 : blB b = false ∧ b.toNat ≠ 35) (h10 : b.toNat ≠ 10) (hlt : letB b = false) (hd : digB b = false) (h95 : b.toNat = 95) (hr0 : run digB r = 0) : Calls Tryz.prog 67 #[.string s, .int .i64 k] w (Answers w (nextR k b r)) := by
  have hL := Lib.hid hl
  obtain ⟨hk, hgA⟩ := at_next hl
  have hg := hgA hk
  clear hgA
  have hkz := drop_len hl
  have h95u := Lib.hid h95
  have ho : oneB b = false := by unfold oneB; rw [h95]; rfl
  have hb : ¬ ((b.toNat = 60 ∨ b.toNat = 62) ∧ r.head? = some 61) := by rintro ⟨e, _⟩; omega
  have hx := Lib.hid (next_bad (k := k) (show piece b r = .bad 31 by unfold piece; rw [if_neg (by rw [h0.1]; simp), if_neg h0.2, if_neg h10, if_neg (by rw [hlt]; simp), if_neg (by rw [hd]; simp), if_neg (by rintro ⟨e1, e2⟩; omega), if_neg (by rintro ⟨e1, _⟩; omega), if_neg (by rw [ho]; simp)]))
  have hsg := Lib.hid (show signW b r = [] by unfold signW; rw [if_neg hb]; unfold oneW; rw [if_neg (by rw [ho]; simp)])
  have h10' : ((s[k].toNat : Int) == 10) = false := by rw [hg]; simp; omega
  have hb' : letB s[k] = false := by rw [hg]; exact hlt
  have h95' : ((s[k].toNat : Int) == 95) = true := by rw [hg, h95]; rfl
  have hds := drop_succ hl
  have hrn := Lib.hid (show (((k + 1) + run digB (s.data.toList.drop (k + 1)) : Nat) : Int) = (k : Int) + 1 by rw [hds, hr0]; omega)
  have hki := Lib.hid (show ((k + 1 : Nat) : Int) = (k : Int) + 1 by omega)
  have hem : (bs []).toList.isEmpty = true := by rw [ByteArray.toList_eq, bs_list]; rfl
  have hG := Lib.hid hg
  clear hl
  clear hg h0 hlt hd h10 h95 hb ho hds hr0
  go_enter Tryz.func67, Tryz.ntmps67
  go_wp2_with (first | (go_at_call 85; refine (rletter_any s[k] _).mono ?_; rintro e w' ⟨rfl, rfl⟩) | (go_at_call 86; refine (end_dig s (k + 1) _ _ _ hs (by omega) hki.out hrn.out).mono ?_; rintro e w' ⟨rfl, rfl⟩) | (go_at_call 88; refine (rsign_any b r s k _ hs hL.out _ hsg.out).mono ?_; rintro e w' ⟨rfl, rfl⟩))
  exact bodyPost_ret (v := .tuple #[.agg #[.int .i64 0, .int .i64 0, .string (bs []), .int .i64 0], .int .i64 0, .int .i64 31]) (by simp [results, Tryz.results67, go_sem, bs]) rfl (none_ret hx.out ((Below.refl _ _).alloc (Nat.le_refl _) _))

theorem next_any (b : UInt8) (r : List UInt8) (s : ByteArray) (k : Nat) (w : World) (hs : s.size ≤ 140737488355328) (hl : s.data.toList.drop k = b :: r) (h0 : blB b = false ∧ b.toNat ≠ 35) : Calls Tryz.prog 67 #[.string s, .int .i64 k] w (Answers w (nextR k b r)) := by
  by_cases h10 : b.toNat = 10
  · exact next_line b r s k w hs hl h10
  cases hlt : letB b with
  | true =>
    by_cases hn : 15 < run alnB r
    · exact next_word_far b r s k w hs hl h0 h10 hlt hn
    · exact next_word_ok b r s k w hs hl h0 h10 hlt hn
  | false =>
    cases hd : digB b with
    | true =>
      cases hv : numR false (b :: r.take (run digB r)) with
      | some v => exact next_num_pos_ok b r s k w hs hl v h0 hd hv
      | none => exact next_num_pos_far b r s k w hs hl h0 hd hv
    | false =>
      by_cases h95 : b.toNat = 95
      · by_cases hr : 0 < run digB r
        · cases hv : numR true (r.take (run digB r)) with
          | some v => exact next_num_neg_ok b r s k w hs hl v h0 h95 hr hv
          | none => exact next_num_neg_far b r s k w hs hl h0 h95 hr hv
        · exact next_sign_none95 b r s k w hs hl h0 h10 hlt hd h95 (by omega)
      · by_cases hb : (b.toNat = 60 ∨ b.toNat = 62) ∧ r.head? = some 61
        · exact next_sign_two b r s k w hs hl h0 h10 hlt hd h95 hb
        · cases ho : oneB b with
          | true => exact next_sign_one b r s k w hs hl h0 h10 hlt hd h95 hb ho
          | false => exact next_sign_none b r s k w hs hl h0 h10 hlt hd h95 hb ho
end Go.Proofs.YtbapgdhcbfpdoaaGreatDoor
