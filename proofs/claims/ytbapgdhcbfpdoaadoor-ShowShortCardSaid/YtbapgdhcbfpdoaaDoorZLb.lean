/- Layer 4, put together: LexD, LexO, LexG, LexH, LexI, LexJ. -/
import Derived.Test.YtbapgdhcbfpdoaaDoorZLa
/- Contracts of package lex: sign, idle. -/
namespace Go.Proofs.YtbapgdhcbfpdoaaDoor
open Go.RowKit

theorem pre_any (s : ByteArray) (p : ByteArray) (x : Bool) (w : World) (h : Lib.hasPrefix s.data.toList p.data.toList = x) : Calls Tryd.prog 43 #[.string s, .string p] w fun e w' => e = .returned (.bool x) ∧ w' = w :=
  (Tryd.hasPrefix s p w).mono fun e w' ⟨he, hw⟩ => ⟨by rw [he, h], hw⟩
set_option maxHeartbeats 2000000 in
theorem sign_two (b : UInt8) (r : List UInt8) (s : ByteArray) (w : World) (hs : s.size ≤ 140737488355328) (hl : s.data.toList = b :: r) (hb : b.toNat = 60 ∨ b.toNat = 62) (hr : r.head? = some 61) : Calls Tryd.prog 25 #[.string s] w (Answers w (signR b r)) := by
  have hx := Lib.hid (show signR b r = ((⟨3, 0, [b, 61], 0⟩ : Tk), (2 : Int), (0 : Int)) by unfold signR; rw [if_pos ⟨hb, hr⟩])
  have h0 : 0 < s.size := by rw [← len_s, hl]; simp
  have hg : s[0] = b := by rw [← get_s s 0 h0, hl]; rfl
  obtain ⟨r1, rfl⟩ : ∃ r1, r = 61 :: r1 := by
    cases r with
    | nil => simp at hr
    | cons c r1 => simp at hr; exact ⟨r1, by rw [hr]⟩
  have hsz : 2 ≤ s.size := by rw [← len_s, hl]; simp
  have hq := show s.extract 0 2 = bs [b, 61] from bs_eq (by rw [ext_list, hl]; simp)
  have hz := Lib.hid hr
  rcases hb with hb | hb
  · obtain rfl : b = 60 := UInt8.toNat_inj.1 hb
    have h1 : Lib.hasPrefix s.data.toList (⟨#[60, 61]⟩ : ByteArray).data.toList = true := by rw [hl]; simp [Lib.hasPrefix]
    have HL := Lib.hid hl
    clear hl hb hr
    go_enter Tryd.func25, Tryd.ntmps25
    go_wp2_with (first | (go_at_call 43; with_reducible refine (pre_any _ ⟨#[60, 61]⟩ _ _ h1).mono ?_; rintro e w' ⟨rfl, rfl⟩) | (go_at_call 27; refine (clone_any (bs [60, 61]) _ (by decide)).mono ?_; rintro e w' ⟨rfl, hb1⟩; obtain ⟨hc, hf⟩ := bcell hb1))
    exact bodyPost_ret (v := .tuple #[.agg #[.int .i64 3, .int .i64 0, .string (bs [60, 61]), .int .i64 0], .int .i64 2, .int .i64 0]) (by simp [results, Tryd.results25, go_sem, hc]) rfl (tok_ret (t := ⟨3, 0, [60, 61], 0⟩) hx.out rfl (bset4 (((Below.refl _ _).alloc (Nat.le_refl _) _).trans (hb1.mono (by simp))) (Nat.le_refl _) _ _ _ _))
  · obtain rfl : b = 62 := UInt8.toNat_inj.1 hb
    have h1 : Lib.hasPrefix s.data.toList (⟨#[60, 61]⟩ : ByteArray).data.toList = false := by rw [hl]; rfl
    have h2 : Lib.hasPrefix s.data.toList (⟨#[62, 61]⟩ : ByteArray).data.toList = true := by rw [hl]; simp [Lib.hasPrefix]
    have HL := Lib.hid hl
    clear hl hb hr
    go_enter Tryd.func25, Tryd.ntmps25
    go_wp2_with (first | (go_at_call 43; with_reducible refine (pre_any _ ⟨#[60, 61]⟩ _ _ h1).mono ?_; rintro e w' ⟨rfl, rfl⟩) | (go_at_call 43; with_reducible refine (pre_any _ ⟨#[62, 61]⟩ _ _ h2).mono ?_; rintro e w' ⟨rfl, rfl⟩) | (go_at_call 27; refine (clone_any (bs [62, 61]) _ (by decide)).mono ?_; rintro e w' ⟨rfl, hb1⟩; obtain ⟨hc, hf⟩ := bcell hb1))
    exact bodyPost_ret (v := .tuple #[.agg #[.int .i64 3, .int .i64 0, .string (bs [62, 61]), .int .i64 0], .int .i64 2, .int .i64 0]) (by simp [results, Tryd.results25, go_sem, hc]) rfl (tok_ret (t := ⟨3, 0, [62, 61], 0⟩) hx.out rfl (bset4 (((Below.refl _ _).alloc (Nat.le_refl _) _).trans (hb1.mono (by simp))) (Nat.le_refl _) _ _ _ _))

theorem pre_not {l : List UInt8} {b c : UInt8} {r : List UInt8} (hl : l = b :: r) (h : ¬ (b = c ∧ r.head? = some 61)) : Lib.hasPrefix l [c, 61] = false := by
  subst hl
  unfold Lib.hasPrefix
  cases r with
  | nil => simp [List.isPrefixOf]
  | cons d r =>
    by_cases h1 : c = b
    · have : ¬ d = 61 := fun e => h ⟨h1.symm, by rw [e]; rfl⟩
      have h2 : ¬ 61 = d := fun e => this e.symm
      simp [List.isPrefixOf, h2]
    · simp [List.isPrefixOf, h1]
theorem one_of {c : UInt8} {k : Int} (h : ((c.toNat : Int) == k) = true) (hk : (signs.any fun n => (n : Int) == k) = true) : oneB c = true := by
  obtain ⟨n, hn, e⟩ := List.any_eq_true.1 hk
  have e1 := eq_of_beq h
  have e2 := eq_of_beq e
  have e3 : c.toNat = n := by omega
  unfold oneB; rw [e3]; simpa using hn
theorem one_not {c : UInt8} (h : ∀ k ∈ signs, ((c.toNat : Int) == ((k : Nat) : Int)) = false) : oneB c = false := by
  cases e : oneB c with
  | false => rfl
  | true =>
    have := h c.toNat (by unfold oneB at e; simpa using e)
    simp at this
set_option maxHeartbeats 4000000 in
theorem sign_one (b : UInt8) (r : List UInt8) (s : ByteArray) (w : World) (hs : s.size ≤ 140737488355328) (hl : s.data.toList = b :: r) (hb : ¬ ((b.toNat = 60 ∨ b.toNat = 62) ∧ r.head? = some 61)) : Calls Tryd.prog 25 #[.string s] w (Answers w (signR b r)) := by
  have hx := Lib.hid (show signR b r = if oneB b then ((⟨3, 0, [b], 0⟩ : Tk), (1 : Int), (0 : Int)) else (tk0, 0, 0) by unfold signR; rw [if_neg hb])
  have h0 : 0 < s.size := by rw [← len_s, hl]; simp
  have hg := Lib.hid (show s[0] = b by rw [← get_s s 0 h0, hl]; rfl)
  have h1 : Lib.hasPrefix s.data.toList (⟨#[60, 61]⟩ : ByteArray).data.toList = false := pre_not hl fun ⟨e, h⟩ => hb ⟨.inl (by rw [e]; rfl), h⟩
  have h2 : Lib.hasPrefix s.data.toList (⟨#[62, 61]⟩ : ByteArray).data.toList = false := pre_not hl fun ⟨e, h⟩ => hb ⟨.inr (by rw [e]; rfl), h⟩
  have hq := show s.extract 0 1 = bs [b] from bs_eq (by rw [ext_list, hl]; simp)
  have hsz : 1 ≤ s.size := h0
  have hbz : (bs [b]).size ≤ 140737488355328 := by rw [bs_size]; simp
  have HL := Lib.hid hl
  clear hl hb
  go_enter Tryd.func25, Tryd.ntmps25
  go_wp2_with (first | (go_at_call 43; with_reducible refine (pre_any _ ⟨#[60, 61]⟩ _ _ h1).mono ?_; rintro e w' ⟨rfl, rfl⟩) | (go_at_call 43; with_reducible refine (pre_any _ ⟨#[62, 61]⟩ _ _ h2).mono ?_; rintro e w' ⟨rfl, rfl⟩) | (go_at_call 27; refine (clone_any (bs [b]) _ hbz).mono ?_; rintro e w' ⟨rfl, hb1⟩; obtain ⟨hc, hf⟩ := bcell hb1))
  iterate 15
    · have ho : oneB b = true := by
        rw [← hg.out]
        first | exact one_of (k := 43) (by assumption) (by decide) | exact one_of (k := 45) (by assumption) (by decide) | exact one_of (k := 42) (by assumption) (by decide) | exact one_of (k := 37) (by assumption) (by decide) | exact one_of (k := 124) (by assumption) (by decide) | exact one_of (k := 61) (by assumption) (by decide) | exact one_of (k := 126) (by assumption) (by decide) | exact one_of (k := 60) (by assumption) (by decide) | exact one_of (k := 62) (by assumption) (by decide) | exact one_of (k := 47) (by assumption) (by decide) | exact one_of (k := 92) (by assumption) (by decide) | exact one_of (k := 46) (by assumption) (by decide) | exact one_of (k := 58) (by assumption) (by decide) | exact one_of (k := 40) (by assumption) (by decide) | exact one_of (k := 41) (by assumption) (by decide)
      have hx2 := hx.out
      rw [if_pos ho] at hx2
      exact bodyPost_ret (v := .tuple #[.agg #[.int .i64 3, .int .i64 0, .string (bs [b]), .int .i64 0], .int .i64 1, .int .i64 0]) (by simp [results, Tryd.results25, go_sem, hc]) rfl (tok_ret (t := ⟨3, 0, [b], 0⟩) hx2 rfl (bset4 (((Below.refl _ _).alloc (Nat.le_refl _) _).trans (hb1.mono (by simp))) (Nat.le_refl _) _ _ _ _))
  · have ho : oneB b = false := by
      rw [← hg.out]
      refine one_not fun k hk => ?_
      simp only [signs, List.mem_cons, List.not_mem_nil, or_false] at hk
      rcases hk with rfl | rfl | rfl | rfl | rfl | rfl | rfl | rfl | rfl | rfl | rfl | rfl | rfl | rfl | rfl <;> assumption
    have hx2 := hx.out
    rw [if_neg (by rw [ho]; simp)] at hx2
    exact bodyPost_ret (v := .tuple #[.agg #[.int .i64 0, .int .i64 0, .string (bs []), .int .i64 0], .int .i64 0, .int .i64 0]) (by simp [results, Tryd.results25, go_sem, bs]) rfl (none_ret hx2 ((Below.refl _ _).alloc (Nat.le_refl _) _))

theorem sign_any (b : UInt8) (r : List UInt8) (s : ByteArray) (w : World) (hs : s.size ≤ 140737488355328) (hl : s.data.toList = b :: r) : Calls Tryd.prog 25 #[.string s] w (Answers w (signR b r)) := by
  by_cases hb : (b.toNat = 60 ∨ b.toNat = 62) ∧ r.head? = some 61
  · exact sign_two b r s w hs hl hb.1 hb.2
  · exact sign_one b r s w hs hl hb
/-- How many bytes of no token begin a text. -/
def idleR (b : UInt8) (r : List UInt8) : Nat := if b.toNat = 35 then run nlB r + 1 else run blB (b :: r)
set_option maxHeartbeats 1000000 in
theorem idle_any (b : UInt8) (r : List UInt8) (s : ByteArray) (w : World) (hs : s.size ≤ 140737488355328) (hl : s.data.toList = b :: r) : Calls Tryd.prog 26 #[.string s] w fun e w' => e = .returned (.int .i64 (idleR b r : Nat)) ∧ w' = w := by
  have hml : s.size ≤ maxLen := by unfold maxLen; omega
  have h0 : 0 < s.size := by rw [← len_s, hl]; simp
  have hg : s[0] = b := by rw [← get_s s 0 h0, hl]; rfl
  by_cases hb : b.toNat = 35
  · have hx := Lib.hid (show run nlB s.data.toList = idleR b r by rw [hl, run_cons, if_pos (by unfold nlB; simp [hb])]; unfold idleR; rw [if_pos hb])
    have hb : ((s[0].toNat : Int) == 35) = true := by rw [hg]; simp [hb]
    have HL := Lib.hid hl
    clear hl hg
    go_enter Tryd.func26, Tryd.ntmps26
    go_wp2_with (first | (go_at_call 38; refine (span_nl s _ hml).mono ?_; rintro e w' ⟨rfl, rfl⟩))
    go_ret
    exact ⟨ret_int (by rw [hx.out]), rfl⟩
  · have hx := Lib.hid (show run blB s.data.toList = idleR b r by rw [hl]; unfold idleR; rw [if_neg hb])
    have hb : ((s[0].toNat : Int) == 35) = false := by rw [hg]; simp; omega
    have HL := Lib.hid hl
    clear hl hg
    go_enter Tryd.func26, Tryd.ntmps26
    go_wp2_with (first | (go_at_call 38; refine (span_bl s _ hml).mono ?_; rintro e w' ⟨rfl, rfl⟩))
    go_ret
    exact ⟨ret_int (by rw [hx.out]), rfl⟩
end Go.Proofs.YtbapgdhcbfpdoaaDoor
/- What the four begins of a token say of how a text is cut. -/
namespace Go.Proofs.YtbapgdhcbfpdoaaDoor
open Go.RowKit

theorem lex_blanks : ∀ (n : Nat) (l : List UInt8) (a : Int), n ≤ run blB l → lexL l a = lexL (l.drop n) (a + n)
  | 0, l, a, _ => by simp
  | n + 1, [], a, h => by simp [run_nil] at h
  | n + 1, b :: r, a, h => by
    rw [run_cons] at h
    cases hb : blB b with
    | false => rw [hb] at h; simp at h
    | true =>
      rw [hb, if_pos rfl] at h
      have hp : piece b r = .skip 0 := by unfold piece; rw [if_pos hb]
      rw [lex_skip hp, List.drop_zero, List.drop_succ_cons, lex_blanks n r _ (by omega)]
      congr 1
      omega
theorem idle_le (b : UInt8) (r : List UInt8) : idleR b r ≤ r.length + 1 := by
  unfold idleR
  split
  · have := run_le nlB r; omega
  · have := run_le blB (b :: r); simpa using this
theorem idle_lex (b : UInt8) (r : List UInt8) (a : Int) : 0 < idleR b r → lexL (b :: r) a = lexL ((b :: r).drop (idleR b r)) (a + idleR b r) := by
  unfold idleR
  split
  · rename_i h
    intro _
    have hp : piece b r = .skip (run nlB r) := by unfold piece; rw [if_neg (by unfold blB; simp [h]), if_pos h]
    rw [lex_skip hp, List.drop_succ_cons]
    congr 1
    omega
  · intro _
    exact lex_blanks _ _ a (Nat.le_refl _)
theorem idle_no {b : UInt8} {r : List UInt8} (h : idleR b r = 0) : blB b = false ∧ b.toNat ≠ 35 := by
  unfold idleR at h
  split at h
  · omega
  · rename_i h35
    rw [run_cons] at h
    refine ⟨?_, h35⟩
    cases e : blB b
    · rfl
    · rw [e] at h; simp at h
/-- What an answer of the four says of the text. -/
def Sel (b : UInt8) (r : List UInt8) (x : Tk × Int × Int) : Prop :=
  (x.2.2 ≠ 0 → ∀ a, lexL (b :: r) a = .err a x.2.2) ∧ (x.2.2 = 0 → x.2.1 ≠ 0 → ∃ n : Nat, x.2.1 = n ∧ 0 < n ∧ n ≤ r.length + 1 ∧ ∀ a, lexL (b :: r) a = Rs.pre [{ x.1 with a := a }] (lexL ((b :: r).drop n) (a + n)))
theorem sel_none {b : UInt8} {r : List UInt8} : Sel b r (tk0, 0, 0) := ⟨fun h => (h rfl).elim, fun _ h => (h rfl).elim⟩
theorem sel_bad {b : UInt8} {r : List UInt8} {e : Int} (h : piece b r = .bad e) (he : e ≠ 0) : Sel b r (tk0, 0, e) := ⟨fun _ a => lex_bad h a, fun h => (he h).elim⟩
theorem sel_tok {b : UInt8} {r : List UInt8} {kd v : Int} {w : List UInt8} {k : Nat} (h : piece b r = .tok kd w v k) {n : Int} (hn : n = (k + 1 : Nat)) : Sel b r (⟨kd, 0, w, v⟩, n, 0) :=
  ⟨fun h => (h rfl).elim, fun _ _ => ⟨k + 1, hn, by omega, by have := piece_le h; omega, fun a => by
    rw [lex_tok h, List.drop_succ_cons]
    congr 2
    omega⟩⟩
theorem sel_line {b : UInt8} {r : List UInt8} (h : idleR b r = 0) : Sel b r (lineR b r) := by
  obtain ⟨h1, h2⟩ := idle_no h
  unfold lineR
  split
  · rename_i h3
    refine sel_tok (k := 0) ?_ rfl
    unfold piece; rw [if_neg (by rw [h1]; simp), if_neg h2, if_pos h3]
  · exact sel_none
theorem line_no {b : UInt8} {r : List UInt8} (h : (lineR b r).2.1 = 0) : b.toNat ≠ 10 := by
  unfold lineR at h; split at h
  · simp at h
  · assumption
theorem sel_word {b : UInt8} {r : List UInt8} (h : idleR b r = 0) (hl : (lineR b r).2.1 = 0) : Sel b r (wordR b r) := by
  obtain ⟨h1, h2⟩ := idle_no h
  have h3 := line_no hl
  unfold wordR
  split
  · rename_i h4
    split
    · rename_i h5
      refine sel_bad ?_ (by decide)
      unfold piece; rw [if_neg (by rw [h1]; simp), if_neg h2, if_neg h3, if_pos h4, if_pos h5]
    · rename_i h5
      refine sel_tok (k := run alnB r) ?_ rfl
      unfold piece; rw [if_neg (by rw [h1]; simp), if_neg h2, if_neg h3, if_pos h4, if_neg h5]
  · exact sel_none
theorem word_no {b : UInt8} {r : List UInt8} (h : (wordR b r).2.1 = 0) (he : (wordR b r).2.2 = 0) : letB b = false := by
  unfold wordR at h he; split at h
  · rename_i h1
    rw [if_pos h1] at he
    split at h
    · rename_i h2; rw [if_pos h2] at he; simp at he
    · simp at h; omega
  · rename_i h1; simpa using h1
theorem sel_numA {b : UInt8} {r : List UInt8} {o : Option Int} {k : Nat} (h : piece b r = numP o k) : Sel b r (numA o (k + 1)) := by
  cases o with
  | none => exact sel_bad h (by decide)
  | some v => exact sel_tok h rfl
theorem numA_no {o : Option Int} {k : Nat} (h : (numA o (k + 1)).2.1 = 0) (he : (numA o (k + 1)).2.2 = 0) : False := by
  cases o with
  | none => simp [numA] at he
  | some v => simp [numA] at h; omega
theorem dig95 {b : UInt8} (h : b.toNat = 95) : digB b = false := by unfold digB; simp; omega
theorem sel_number {b : UInt8} {r : List UInt8} (h : idleR b r = 0) (hl : (lineR b r).2.1 = 0) (hw : letB b = false) : Sel b r (numberR b r) := by
  obtain ⟨h1, h2⟩ := idle_no h
  have h3 := line_no hl
  unfold numberR
  split
  · rename_i h4
    split
    · rename_i h5
      refine sel_numA ?_
      unfold piece; rw [if_neg (by rw [h1]; simp), if_neg h2, if_neg h3, if_neg (by rw [hw]; simp), if_neg (by rw [dig95 h4]; simp), if_pos ⟨h4, h5⟩]
    · exact sel_none
  · rename_i h4
    split
    · rename_i h5
      refine sel_numA ?_
      unfold piece; rw [if_neg (by rw [h1]; simp), if_neg h2, if_neg h3, if_neg (by rw [hw]; simp), if_pos h5]
    · exact sel_none
theorem number_none {b : UInt8} {r : List UInt8} (h : (numberR b r).2.1 = 0) (he : (numberR b r).2.2 = 0) : digB b = false ∧ ¬ (b.toNat = 95 ∧ 0 < run digB r) := by
  unfold numberR at h he
  split at h
  · rename_i h1
    rw [if_pos h1] at he
    split at h
    · rename_i h2; rw [if_pos h2] at he; exact (numA_no h he).elim
    · rename_i h2; exact ⟨dig95 h1, fun h => h2 h.2⟩
  · rename_i h1
    rw [if_neg h1] at he
    split at h
    · rename_i h2; rw [if_pos h2] at he; exact (numA_no h he).elim
    · rename_i h2; exact ⟨by simpa using h2, fun h => h1 h.1⟩
theorem sel_sign {b : UInt8} {r : List UInt8} (h : idleR b r = 0) (hl : (lineR b r).2.1 = 0) (hw : letB b = false) (hn : digB b = false ∧ ¬ (b.toNat = 95 ∧ 0 < run digB r)) : Sel b r (signR b r) ∧ ((signR b r).2.1 = 0 → ∀ a, lexL (b :: r) a = .err a 31) := by
  obtain ⟨h1, h2⟩ := idle_no h
  have h3 := line_no hl
  unfold signR
  split
  · rename_i h4
    refine ⟨sel_tok (k := 1) ?_ rfl, fun h => by simp at h⟩
    unfold piece; rw [if_neg (by rw [h1]; simp), if_neg h2, if_neg h3, if_neg (by rw [hw]; simp), if_neg (by rw [hn.1]; simp), if_neg hn.2, if_pos h4]
  · rename_i h4
    split
    · rename_i h5
      refine ⟨sel_tok (k := 0) ?_ rfl, fun h => by simp at h⟩
      unfold piece; rw [if_neg (by rw [h1]; simp), if_neg h2, if_neg h3, if_neg (by rw [hw]; simp), if_neg (by rw [hn.1]; simp), if_neg hn.2, if_neg h4, if_pos h5]
    · rename_i h5
      refine ⟨sel_none, fun _ a => lex_bad ?_ a⟩
      unfold piece; rw [if_neg (by rw [h1]; simp), if_neg h2, if_neg h3, if_neg (by rw [hw]; simp), if_neg (by rw [hn.1]; simp), if_neg hn.2, if_neg h4, if_neg h5]
/-- The j-th of the four. -/
def begR (j : Nat) (b : UInt8) (r : List UInt8) : Tk × Int × Int := match j with
  | 0 => lineR b r
  | 1 => wordR b r
  | 2 => numberR b r
  | _ => signR b r
def NoneB (j : Nat) (b : UInt8) (r : List UInt8) : Prop := ∀ i, i < j → (begR i b r).2.1 = 0 ∧ (begR i b r).2.2 = 0
theorem sel_at {j : Nat} {b : UInt8} {r : List UInt8} (h : idleR b r = 0) (hj : j < 4) (hn : NoneB j b r) : Sel b r (begR j b r) := by
  match j, hj with
  | 0, _ => exact sel_line h
  | 1, _ => exact sel_word h (hn 0 (by omega)).1
  | 2, _ => exact sel_number h (hn 0 (by omega)).1 (word_no (hn 1 (by omega)).1 (hn 1 (by omega)).2)
  | 3, _ => exact (sel_sign h (hn 0 (by omega)).1 (word_no (hn 1 (by omega)).1 (hn 1 (by omega)).2) (number_none (hn 2 (by omega)).1 (hn 2 (by omega)).2)).1
theorem sel_all {b : UInt8} {r : List UInt8} (h : idleR b r = 0) (hn : NoneB 4 b r) (a : Int) : lexL (b :: r) a = .err a 31 :=
  (sel_sign h (hn 0 (by omega)).1 (word_no (hn 1 (by omega)).1 (hn 1 (by omega)).2) (number_none (hn 2 (by omega)).1 (hn 2 (by omega)).2)).2 (hn 3 (by omega)).1 a
end Go.Proofs.YtbapgdhcbfpdoaaDoor
/- Contracts of the document's answers for layer 3: end, sign, value. -/
namespace Go.Proofs.YtbapgdhcbfpdoaaDoor
open Go.RowKit

theorem drop_get (l : List UInt8) (k i : Nat) : (l.drop k).getD i 0 = l.getD (k + i) 0 := by
  rw [List.getD_eq_getElem?_getD, List.getD_eq_getElem?_getD, List.getElem?_drop]
theorem run_at {f : UInt8 → Bool} {s : ByteArray} {k j : Nat} (hkj : k ≤ j) (hj : j ≤ s.size) (h : ∀ i, k ≤ i → i < j → f (s.data.toList.getD i 0) = true) (hs : j = s.size ∨ f (s.data.toList.getD j 0) = false) : run f (s.data.toList.drop k) = j - k := by
  refine run_stop _ _ (j - k) (fun i hi => by rw [drop_get]; exact h _ (by omega) (by omega)) (by rw [List.length_drop, len_s]; omega) ?_
  rcases hs with hs | hs
  · left; rw [List.length_drop, len_s]; omega
  · right; rw [drop_get, show k + (j - k) = j from by omega]; exact hs
end Go.Proofs.YtbapgdhcbfpdoaaDoor
/- Contracts of the document's answers for layer 3: value, sign. -/
namespace Go.Proofs.YtbapgdhcbfpdoaaDoor
open Go.RowKit

theorem mag_app (acc : Nat) (l r : List UInt8) : mag acc (l ++ r) = mag (mag acc l) r := by unfold mag; rw [List.foldl_append]
theorem mag_take (ds : List UInt8) (k : Nat) : mag 0 (ds.take k) ≤ mag 0 ds := by
  have h := mag_app 0 (ds.take k) (ds.drop k)
  rw [List.take_append_drop] at h
  rw [h]; exact mag_ge _ _
theorem mag_succ (s : ByteArray) (k : Nat) (h : k < s.size) : mag 0 (s.data.toList.take (k + 1)) = mag 0 (s.data.toList.take k) * 10 + (s[k].toNat - 48) := by
  rw [List.take_succ_eq_append_getElem (by simpa using h), mag_app, mag_cons, mag_nil]; rfl
theorem neg_wrap (N : Nat) (h : N ≤ 9223372036854775808) : wrap64 (IntKind.u64.wrap (-(N : Int))) = -(N : Int) := by
  have e : IntKind.u64.wrap (-(N : Int)) = (-(N : Int)) % 18446744073709551616 := by simp [IntKind.wrap, IntKind.bits, IntKind.signed]
  rw [e]
  unfold wrap64
  omega
def ValR (o : Option Int) (e : Ending) : Prop := e = .returned (.tuple #[.int .i64 (o.getD 0), .bool o.isSome])
theorem val_none {o : Option Int} (h : o = none) : ValR o (.returned (.tuple #[.int .i64 0, .bool false])) := by subst h; rfl
theorem val_some {o : Option Int} {v v' : Int} (h : o = some v) (hv : v' = v) : ValR o (.returned (.tuple #[.int .i64 v', .bool true])) := by subst h hv; rfl
end Go.Proofs.YtbapgdhcbfpdoaaDoor
/- Contract of the document's answers for layer 3: sign. -/
namespace Go.Proofs.YtbapgdhcbfpdoaaDoor
open Go.RowKit

/-- The sign that begins a text; empty: none. -/
def oneW (b : UInt8) : List UInt8 := if oneB b then [b] else []
def signW (b : UInt8) (r : List UInt8) : List UInt8 := if (b.toNat = 60 ∨ b.toNat = 62) ∧ r.head? = some 61 then [b, 61] else oneW b
theorem ret_str {a b : ByteArray} (h : a = b) : Ending.returned (.string a) = .returned (.string b) := by rw [h]
theorem at_next {s : ByteArray} {k : Nat} {b : UInt8} {r : List UInt8} (h : s.data.toList.drop k = b :: r) : k < s.size ∧ ∀ hk : k < s.size, s[k] = b := by
  have hk : k < s.size := by
    rcases Nat.lt_or_ge k s.size with h1 | h1
    · exact h1
    · rw [List.drop_of_length_le (by rw [len_s]; exact h1)] at h; cases h
  refine ⟨hk, fun _ => ?_⟩
  have := drop_get s.data.toList k 0
  rw [h] at this
  rw [← get_s s k hk]
  exact this.symm
theorem at_next2 {s : ByteArray} {k : Nat} {b c : UInt8} {r : List UInt8} (h : s.data.toList.drop k = b :: c :: r) : k + 1 < s.size ∧ ∀ hk : k + 1 < s.size, s[k + 1] = c := by
  have h1 : s.data.toList.drop (k + 1) = c :: r := by rw [← List.drop_drop, h]; rfl
  exact at_next h1
theorem ext_at {s : ByteArray} {k n : Nat} {l : List UInt8} (h : s.data.toList.drop k = l) : s.extract k (k + n) = bs (l.take n) := bs_eq (by rw [ext_list, ← h, List.drop_take]; congr 1; omega)
end Go.Proofs.YtbapgdhcbfpdoaaDoor
/- Contract of the document's answers for layer 3: Next. -/
namespace Go.Proofs.YtbapgdhcbfpdoaaDoor
open Go.RowKit

def nextR (k : Nat) (b : UInt8) (r : List UInt8) : Tk × Int × Int := match piece b r with
  | .tok kd w v n => (⟨kd, k, w, v⟩, (k + 1 + n : Nat), 0)
  | .bad e => (tk0, 0, e)
  | .skip _ => (tk0, 0, 31)
theorem tri {t : Tk} {a b e : Int} (h : a = b) : (t, a, e) = (t, b, e) := by rw [h]
theorem next_tok {k : Nat} {b : UInt8} {r : List UInt8} {kd v : Int} {w : List UInt8} {n : Nat} (h : piece b r = .tok kd w v n) : nextR k b r = ((⟨kd, k, w, v⟩ : Tk), ((k + 1 + n : Nat) : Int), (0 : Int)) := by unfold nextR; rw [h]
theorem next_bad {k : Nat} {b : UInt8} {r : List UInt8} {e : Int} (h : piece b r = .bad e) : nextR k b r = (tk0, (0 : Int), e) := by unfold nextR; rw [h]
theorem drop_succ {l : List UInt8} {k : Nat} {b : UInt8} {r : List UInt8} (h : l.drop k = b :: r) : l.drop (k + 1) = r := by rw [← List.drop_drop, h]; rfl
theorem drop_len {s : ByteArray} {k : Nat} {b : UInt8} {r : List UInt8} (h : s.data.toList.drop k = b :: r) : k + (r.length + 1) = s.size := by
  have h1 := (at_next h).1
  have := congrArg List.length h; rw [List.length_drop, len_s] at this; simp at this; omega
end Go.Proofs.YtbapgdhcbfpdoaaDoor
