/- Contract of the document's answers for layer 3: Next. -/
import Derived.Test.YtphcjpomneejmaaDoorLexI
namespace Go.Proofs.YtphcjpomneejmaaDoor
open Go.RowKit

theorem rsign_any (b : UInt8) (r : List UInt8) (s : ByteArray) (k : Nat) (w : World) (hs : s.size ≤ 140737488355328) (hl : s.data.toList.drop k = b :: r) (x : List UInt8) (hx : signW b r = x) : Calls Tryd.prog 39 #[.string s, .int .i64 k] w fun e w' => e = .returned (.string (bs x)) ∧ w' = w := by
  subst hx
  unfold signW
  by_cases hb : (b.toNat = 60 ∨ b.toNat = 62) ∧ r.head? = some 61
  · rw [if_pos hb]
    cases r with
    | nil => simp at hb
    | cons c r =>
      obtain ⟨h1, h2⟩ := hb
      simp at h2
      subst h2
      exact rsign_two b r s k w hs hl h1
  · rw [if_neg hb]; exact rsign_one b r s k w hs hl hb
def nextR (k : Nat) (b : UInt8) (r : List UInt8) : Tk × Int × Int := match piece b r with
  | .tok kd w v n => (⟨kd, k, w, v⟩, (k + 1 + n : Nat), 0)
  | .bad e => (tk0, 0, e)
  | .skip _ => (tk0, 0, 31)
theorem tri {t : Tk} {a b e : Int} (h : a = b) : (t, a, e) = (t, b, e) := by rw [h]
theorem next_tok {k : Nat} {b : UInt8} {r : List UInt8} {kd v : Int} {w : List UInt8} {n : Nat} (h : piece b r = .tok kd w v n) : nextR k b r = ((⟨kd, k, w, v⟩ : Tk), ((k + 1 + n : Nat) : Int), (0 : Int)) := by unfold nextR; rw [h]
theorem next_bad {k : Nat} {b : UInt8} {r : List UInt8} {e : Int} (h : piece b r = .bad e) : nextR k b r = (tk0, (0 : Int), e) := by unfold nextR; rw [h]
theorem end_aln (s : ByteArray) (k : Nat) (w : World) (n : Nat) (hs : s.size ≤ 140737488355328) (hk : k ≤ s.size) (hn : run alnB (s.data.toList.drop k) = n) : Calls Tryd.prog 37 #[.string s, .int .i64 k, .bool true] w fun e w' => e = .returned (.int .i64 (k + n)) ∧ w' = w := by
  subst hn; exact rend_aln s k w hs hk
theorem end_dig (s : ByteArray) (k : Nat) (w : World) (i : Int) (n : Int) (hs : s.size ≤ 140737488355328) (hk : k ≤ s.size) (hi : (k : Int) = i) (hn : ((k + run digB (s.data.toList.drop k) : Nat) : Int) = n) : Calls Tryd.prog 37 #[.string s, .int .i64 i, .bool false] w fun e w' => e = .returned (.int .i64 n) ∧ w' = w := by
  subst hn hi; exact rend_dig s k w hs hk
theorem value_at (neg : Bool) (ds : List UInt8) (w : World) (v : Int) (x : Bool) (hs : ds.length ≤ 140737488355328) (hd : ∀ c ∈ ds, digB c = true) (hv : (numR neg ds).getD 0 = v) (hx : (numR neg ds).isSome = x) : Calls Tryd.prog 38 #[.string (bs ds), .bool neg] w fun e w' => e = .returned (.tuple #[.int .i64 v, .bool x]) ∧ w' = w := by
  subst hv hx
  cases neg
  · have h := rvalue_pos (bs ds) w (by rw [bs_size]; exact hs) (by rw [bs_list]; exact hd)
    rw [bs_list] at h
    exact h
  · have h := rvalue_neg (bs ds) w (by rw [bs_size]; exact hs) (by rw [bs_list]; exact hd)
    rw [bs_list] at h
    exact h
theorem drop_succ {l : List UInt8} {k : Nat} {b : UInt8} {r : List UInt8} (h : l.drop k = b :: r) : l.drop (k + 1) = r := by rw [← List.drop_drop, h]; rfl
theorem drop_len {s : ByteArray} {k : Nat} {b : UInt8} {r : List UInt8} (h : s.data.toList.drop k = b :: r) : k + (r.length + 1) = s.size := by
  have h1 := (at_next h).1
  have := congrArg List.length h; rw [List.length_drop, len_s] at this; simp at this; omega
set_option maxHeartbeats 800000 in
theorem next_line (b : UInt8) (r : List UInt8) (s : ByteArray) (k : Nat) (w : World) (hs : s.size ≤ 140737488355328) (hl : s.data.toList.drop k = b :: r) (hb : b.toNat = 10) : Calls Tryd.prog 23 #[.string s, .int .i64 k] w (Answers w (nextR k b r)) := by
  have hL := Lib.hid hl
  obtain ⟨hk, hgA⟩ := at_next hl
  have hg := hgA hk
  clear hgA
  have hkz := drop_len hl
  have hx := Lib.hid (next_tok (k := k) (show piece b r = .tok 4 [] 0 0 by unfold piece; rw [if_neg (by unfold blB; simp [hb]), if_neg (by omega), if_pos hb]))
  have h10 : ((s[k].toNat : Int) == 10) = true := by rw [hg, hb]; rfl
  have hG := Lib.hid hg
  clear hl
  clear hg hb
  go_enter Tryd.func23, Tryd.ntmps23
  go_wp2
  have hfin : Answers w (nextR k b r) (.returned (.tuple #[.agg #[.int .i64 4, .int .i64 k, .string (bs []), .int .i64 0], .int .i64 ((k : Int) + 1), .int .i64 0])) (w.alloc (.cells #[.int .i64 4, .int .i64 k, .string (bs []), .int .i64 0] 32)) := by
    rw [hx.out]
    exact ⟨rfl, (Below.refl _ _).alloc (Nat.le_refl _) _⟩
  exact bodyPost_ret (by simp [results, Tryd.results23, go_sem, bs]) rfl hfin
set_option maxHeartbeats 800000 in
theorem next_word_far (b : UInt8) (r : List UInt8) (s : ByteArray) (k : Nat) (w : World) (hs : s.size ≤ 140737488355328) (hl : s.data.toList.drop k = b :: r) (h0 : blB b = false ∧ b.toNat ≠ 35) (h10 : b.toNat ≠ 10) (hb : letB b = true) (hn : 15 < run alnB r) : Calls Tryd.prog 23 #[.string s, .int .i64 k] w (Answers w (nextR k b r)) := by
  have hL := Lib.hid hl
  obtain ⟨hk, hgA⟩ := at_next hl
  have hg := hgA hk
  clear hgA
  have hkz := drop_len hl
  have hx := Lib.hid (next_bad (k := k) (show piece b r = .bad 33 by unfold piece; rw [if_neg (by rw [h0.1]; simp), if_neg h0.2, if_neg h10, if_pos hb, if_pos hn]))
  have hx2 := Lib.hid (hx.out)
  have hrun := (show run alnB (s.data.toList.drop k) = run alnB r + 1 by rw [hl, run_cons, if_pos (by unfold alnB; rw [hb]; rfl)])
  have hrl : run alnB r ≤ r.length := run_le _ _
  have h10' : ((s[k].toNat : Int) == 10) = false := by rw [hg]; simp; omega
  have hb' : letB s[k] = true := by rw [hg]; exact hb
  have hq := Lib.hid (show s.extract k (k + (run alnB r + 1)) = bs (b :: r.take (run alnB r)) from (ext_at hl).trans rfl)
  have hrn := Lib.hid hrun
  have hG := Lib.hid hg
  clear hl
  clear hg hb h10 h0 hrun
  go_enter Tryd.func23, Tryd.ntmps23
  go_wp2_with (first | (go_at_call 36; refine (rletter_any s[k] _).mono ?_; rintro e w' ⟨rfl, rfl⟩) | (go_at_call 37; refine (end_aln s k _ (run alnB r + 1) hs (by omega) hrn.out).mono ?_; rintro e w' ⟨rfl, rfl⟩))
  exact bodyPost_ret (v := .tuple #[.agg #[.int .i64 0, .int .i64 0, .string (bs []), .int .i64 0], .int .i64 0, .int .i64 33]) (by simp [results, Tryd.results23, go_sem, bs]) rfl (none_ret hx.out ((Below.refl _ _).alloc (Nat.le_refl _) _))
set_option maxHeartbeats 800000 in
theorem next_word_ok (b : UInt8) (r : List UInt8) (s : ByteArray) (k : Nat) (w : World) (hs : s.size ≤ 140737488355328) (hl : s.data.toList.drop k = b :: r) (h0 : blB b = false ∧ b.toNat ≠ 35) (h10 : b.toNat ≠ 10) (hb : letB b = true) (hn : ¬ 15 < run alnB r) : Calls Tryd.prog 23 #[.string s, .int .i64 k] w (Answers w (nextR k b r)) := by
  have hL := Lib.hid hl
  obtain ⟨hk, hgA⟩ := at_next hl
  have hg := hgA hk
  clear hgA
  have hkz := drop_len hl
  have hx := Lib.hid (next_tok (k := k) (show piece b r = .tok 1 (b :: r.take (run alnB r)) 0 (run alnB r) by unfold piece; rw [if_neg (by rw [h0.1]; simp), if_neg h0.2, if_neg h10, if_pos hb, if_neg hn]))
  have hx2 := Lib.hid (hx.out.trans (tri (show _ = (k : Int) + ((run alnB r : Nat) + 1) by omega)))
  have hrun := (show run alnB (s.data.toList.drop k) = run alnB r + 1 by rw [hl, run_cons, if_pos (by unfold alnB; rw [hb]; rfl)])
  have hrl : run alnB r ≤ r.length := run_le _ _
  have h10' : ((s[k].toNat : Int) == 10) = false := by rw [hg]; simp; omega
  have hb' : letB s[k] = true := by rw [hg]; exact hb
  have hq := Lib.hid (show s.extract k (k + (run alnB r + 1)) = bs (b :: r.take (run alnB r)) from (ext_at hl).trans rfl)
  have hrn := Lib.hid hrun
  have hG := Lib.hid hg
  clear hl
  clear hg hb h10 h0 hrun
  go_enter Tryd.func23, Tryd.ntmps23
  go_wp2_with (first | (go_at_call 36; refine (rletter_any s[k] _).mono ?_; rintro e w' ⟨rfl, rfl⟩) | (go_at_call 37; refine (end_aln s k _ (run alnB r + 1) hs (by omega) hrn.out).mono ?_; rintro e w' ⟨rfl, rfl⟩))
  have hfin : Answers w (nextR k b r) (.returned (.tuple #[.agg #[.int .i64 1, .int .i64 k, .string (s.extract k (k + (run alnB r + 1))), .int .i64 0], .int .i64 ((k : Int) + ((run alnB r : Nat) + 1)), .int .i64 0])) (w.alloc (.cells #[.int .i64 1, .int .i64 k, .string (s.extract k (k + (run alnB r + 1))), .int .i64 0] 32)) := by
    rw [hx2.out, hq.out]
    exact ⟨rfl, (Below.refl _ _).alloc (Nat.le_refl _) _⟩
  exact bodyPost_ret (by simp [results, Tryd.results23, go_sem]) rfl hfin
set_option maxHeartbeats 800000 in
theorem next_num_neg_ok (b : UInt8) (r : List UInt8) (s : ByteArray) (k : Nat) (w : World) (hs : s.size ≤ 140737488355328) (hl : s.data.toList.drop k = b :: r) (v : Int) (h0 : blB b = false ∧ b.toNat ≠ 35) (hb : b.toNat = 95) (hd : 0 < run digB r) (hv : numR true (r.take (run digB r)) = some v) : Calls Tryd.prog 23 #[.string s, .int .i64 k] w (Answers w (nextR k b r)) := by
  have hL := Lib.hid hl
  obtain ⟨hk, hgA⟩ := at_next hl
  have hg := hgA hk
  clear hgA
  have hkz := drop_len hl
  have hlt : letB b = false := by unfold letB; simp; omega
  have hx := Lib.hid (next_tok (k := k) (show piece b r = .tok 2 [] v (run digB r) by unfold piece; rw [if_neg (by rw [h0.1]; simp), if_neg h0.2, if_neg (by omega), if_neg (by rw [hlt]; simp), if_neg (by rw [dig95 hb]; simp), if_pos ⟨hb, hd⟩, hv]; rfl))
  have hrl : run digB r ≤ r.length := run_le _ _
  have hx2 := Lib.hid (hx.out.trans (tri (show _ = (k : Int) + 1 + (run digB r : Nat) by omega)))
  have h10' : ((s[k].toNat : Int) == 10) = false := by rw [hg]; simp; omega
  have hb' : letB s[k] = false := by rw [hg]; exact hlt
  have h95 : ((s[k].toNat : Int) == 95) = true := by rw [hg, hb]; rfl
  have hds := drop_succ hl
  have hrn := Lib.hid (show (((k + 1) + run digB (s.data.toList.drop (k + 1)) : Nat) : Int) = (k : Int) + 1 + (run digB r : Nat) by rw [hds]; omega)
  have hq := show s.extract (k + 1) (k + 1 + run digB r) = bs (r.take (run digB r)) from ext_at hds
  have hall := Lib.hid (run_all digB r)
  have hrp : (0 : Int) < (run digB r : Nat) := by omega
  have hdk : decide ((k : Int) < (k : Int) + 1) = true := decide_eq_true (by omega)
  have hki := Lib.hid (show ((k + 1 : Nat) : Int) = (k : Int) + 1 by omega)
  have hdl : (r.take (run digB r)).length ≤ 140737488355328 := by simp; omega
  have hv1 := Lib.hid (show (numR true (r.take (run digB r))).getD 0 = v by rw [hv]; rfl)
  have hv2 := Lib.hid (show (numR true (r.take (run digB r))).isSome = true by rw [hv]; rfl)
  have hG := Lib.hid hg
  clear hl
  clear hg hb h0 hlt hv hds
  go_enter Tryd.func23, Tryd.ntmps23
  go_wp2_with (first | (go_at_call 36; refine (rletter_any s[k] _).mono ?_; rintro e w' ⟨rfl, rfl⟩) | (go_at_call 37; refine (end_dig s (k + 1) _ _ _ hs (by omega) hki.out hrn.out).mono ?_; rintro e w' ⟨rfl, rfl⟩) | (go_at_call 38; refine (value_at true (r.take (run digB r)) _ _ _ hdl hall.out hv1.out hv2.out).mono ?_; rintro e w' ⟨rfl, rfl⟩))
  have hfin : Answers w (nextR k b r) (.returned (.tuple #[.agg #[.int .i64 2, .int .i64 k, .string (bs []), .int .i64 v], .int .i64 ((k : Int) + 1 + (run digB r : Nat)), .int .i64 0])) (w.alloc (.cells #[.int .i64 2, .int .i64 k, .string (bs []), .int .i64 v] 32)) := by
    rw [hx2.out]
    exact ⟨rfl, (Below.refl _ _).alloc (Nat.le_refl _) _⟩
  exact bodyPost_ret (by simp [results, Tryd.results23, go_sem, bs]) rfl hfin
set_option maxHeartbeats 800000 in
theorem next_num_neg_far (b : UInt8) (r : List UInt8) (s : ByteArray) (k : Nat) (w : World) (hs : s.size ≤ 140737488355328) (hl : s.data.toList.drop k = b :: r) (h0 : blB b = false ∧ b.toNat ≠ 35) (hb : b.toNat = 95) (hd : 0 < run digB r) (hv : numR true (r.take (run digB r)) = none) : Calls Tryd.prog 23 #[.string s, .int .i64 k] w (Answers w (nextR k b r)) := by
  have hL := Lib.hid hl
  obtain ⟨hk, hgA⟩ := at_next hl
  have hg := hgA hk
  clear hgA
  have hkz := drop_len hl
  have hlt : letB b = false := by unfold letB; simp; omega
  have hx := Lib.hid (next_bad (k := k) (show piece b r = .bad 32 by unfold piece; rw [if_neg (by rw [h0.1]; simp), if_neg h0.2, if_neg (by omega), if_neg (by rw [hlt]; simp), if_neg (by rw [dig95 hb]; simp), if_pos ⟨hb, hd⟩, hv]; rfl))
  have hrl : run digB r ≤ r.length := run_le _ _
  have h10' : ((s[k].toNat : Int) == 10) = false := by rw [hg]; simp; omega
  have hb' : letB s[k] = false := by rw [hg]; exact hlt
  have h95 : ((s[k].toNat : Int) == 95) = true := by rw [hg, hb]; rfl
  have hds := drop_succ hl
  have hrn := Lib.hid (show (((k + 1) + run digB (s.data.toList.drop (k + 1)) : Nat) : Int) = (k : Int) + 1 + (run digB r : Nat) by rw [hds]; omega)
  have hq := show s.extract (k + 1) (k + 1 + run digB r) = bs (r.take (run digB r)) from ext_at hds
  have hall := Lib.hid (run_all digB r)
  have hrp : (0 : Int) < (run digB r : Nat) := by omega
  have hdk : decide ((k : Int) < (k : Int) + 1) = true := decide_eq_true (by omega)
  have hki := Lib.hid (show ((k + 1 : Nat) : Int) = (k : Int) + 1 by omega)
  have hdl : (r.take (run digB r)).length ≤ 140737488355328 := by simp; omega
  have hv1 := Lib.hid (show (numR true (r.take (run digB r))).getD 0 = 0 by rw [hv]; rfl)
  have hv2 := Lib.hid (show (numR true (r.take (run digB r))).isSome = false by rw [hv]; rfl)
  have hG := Lib.hid hg
  clear hl
  clear hg hb h0 hlt hv hds
  go_enter Tryd.func23, Tryd.ntmps23
  go_wp2_with (first | (go_at_call 36; refine (rletter_any s[k] _).mono ?_; rintro e w' ⟨rfl, rfl⟩) | (go_at_call 37; refine (end_dig s (k + 1) _ _ _ hs (by omega) hki.out hrn.out).mono ?_; rintro e w' ⟨rfl, rfl⟩) | (go_at_call 38; refine (value_at true (r.take (run digB r)) _ _ _ hdl hall.out hv1.out hv2.out).mono ?_; rintro e w' ⟨rfl, rfl⟩))
  exact bodyPost_ret (v := .tuple #[.agg #[.int .i64 0, .int .i64 0, .string (bs []), .int .i64 0], .int .i64 0, .int .i64 32]) (by simp [results, Tryd.results23, go_sem, bs]) rfl (none_ret hx.out ((Below.refl _ _).alloc (Nat.le_refl _) _))
set_option maxHeartbeats 800000 in
theorem next_num_pos_ok (b : UInt8) (r : List UInt8) (s : ByteArray) (k : Nat) (w : World) (hs : s.size ≤ 140737488355328) (hl : s.data.toList.drop k = b :: r) (v : Int) (h0 : blB b = false ∧ b.toNat ≠ 35) (hb : digB b = true) (hv : numR false (b :: r.take (run digB r)) = some v) : Calls Tryd.prog 23 #[.string s, .int .i64 k] w (Answers w (nextR k b r)) := by
  have hL := Lib.hid hl
  obtain ⟨hk, hgA⟩ := at_next hl
  have hg := hgA hk
  clear hgA
  have hkz := drop_len hl
  have hbb := (digB_iff b).1 hb
  have hlt : letB b = false := by unfold letB; simp; omega
  have hx := Lib.hid (next_tok (k := k) (show piece b r = .tok 2 [] v (run digB r) by unfold piece; rw [if_neg (by rw [h0.1]; simp), if_neg h0.2, if_neg (by omega), if_neg (by rw [hlt]; simp), if_pos hb, hv]; rfl))
  have hrl : run digB r ≤ r.length := run_le _ _
  have hx2 := Lib.hid (hx.out.trans (tri (show _ = (k : Int) + ((run digB r : Nat) + 1) by omega)))
  have h10' : ((s[k].toNat : Int) == 10) = false := by rw [hg]; simp; omega
  have hb' : letB s[k] = false := by rw [hg]; exact hlt
  have h95 : ((s[k].toNat : Int) == 95) = false := by rw [hg]; simp; omega
  have hrn := Lib.hid (show ((k + run digB (s.data.toList.drop k) : Nat) : Int) = (k : Int) + ((run digB r : Nat) + 1) by rw [hl, run_cons, if_pos hb]; omega)
  have hq := show s.extract k (k + (run digB r + 1)) = bs (b :: r.take (run digB r)) from (ext_at hl).trans rfl
  have hall := Lib.hid (show ∀ d ∈ b :: r.take (run digB r), digB d = true from fun d hm => by
    rcases List.mem_cons.1 hm with rfl | hm
    · exact hb
    · exact run_all _ _ d hm)
  have hdl : (b :: r.take (run digB r)).length ≤ 140737488355328 := by simp; omega
  have hv1 := Lib.hid (show (numR false (b :: r.take (run digB r))).getD 0 = v by rw [hv]; rfl)
  have hv2 := Lib.hid (show (numR false (b :: r.take (run digB r))).isSome = true by rw [hv]; rfl)
  have hG := Lib.hid hg
  clear hl
  clear hg hb h0 hlt hv hbb
  go_enter Tryd.func23, Tryd.ntmps23
  go_wp2_with (first | (go_at_call 36; refine (rletter_any s[k] _).mono ?_; rintro e w' ⟨rfl, rfl⟩) | (go_at_call 37; refine (end_dig s k _ _ _ hs (by omega) rfl hrn.out).mono ?_; rintro e w' ⟨rfl, rfl⟩) | (go_at_call 38; refine (value_at false (b :: r.take (run digB r)) _ _ _ hdl hall.out hv1.out hv2.out).mono ?_; rintro e w' ⟨rfl, rfl⟩))
  have hfin : Answers w (nextR k b r) (.returned (.tuple #[.agg #[.int .i64 2, .int .i64 k, .string (bs []), .int .i64 v], .int .i64 ((k : Int) + ((run digB r : Nat) + 1)), .int .i64 0])) (w.alloc (.cells #[.int .i64 2, .int .i64 k, .string (bs []), .int .i64 v] 32)) := by
    rw [hx2.out]
    exact ⟨rfl, (Below.refl _ _).alloc (Nat.le_refl _) _⟩
  exact bodyPost_ret (by simp [results, Tryd.results23, go_sem, bs]) rfl hfin
set_option maxHeartbeats 800000 in
theorem next_num_pos_far (b : UInt8) (r : List UInt8) (s : ByteArray) (k : Nat) (w : World) (hs : s.size ≤ 140737488355328) (hl : s.data.toList.drop k = b :: r) (h0 : blB b = false ∧ b.toNat ≠ 35) (hb : digB b = true) (hv : numR false (b :: r.take (run digB r)) = none) : Calls Tryd.prog 23 #[.string s, .int .i64 k] w (Answers w (nextR k b r)) := by
  have hL := Lib.hid hl
  obtain ⟨hk, hgA⟩ := at_next hl
  have hg := hgA hk
  clear hgA
  have hkz := drop_len hl
  have hbb := (digB_iff b).1 hb
  have hlt : letB b = false := by unfold letB; simp; omega
  have hx := Lib.hid (next_bad (k := k) (show piece b r = .bad 32 by unfold piece; rw [if_neg (by rw [h0.1]; simp), if_neg h0.2, if_neg (by omega), if_neg (by rw [hlt]; simp), if_pos hb, hv]; rfl))
  have hrl : run digB r ≤ r.length := run_le _ _
  have h10' : ((s[k].toNat : Int) == 10) = false := by rw [hg]; simp; omega
  have hb' : letB s[k] = false := by rw [hg]; exact hlt
  have h95 : ((s[k].toNat : Int) == 95) = false := by rw [hg]; simp; omega
  have hrn := Lib.hid (show ((k + run digB (s.data.toList.drop k) : Nat) : Int) = (k : Int) + ((run digB r : Nat) + 1) by rw [hl, run_cons, if_pos hb]; omega)
  have hq := show s.extract k (k + (run digB r + 1)) = bs (b :: r.take (run digB r)) from (ext_at hl).trans rfl
  have hall := Lib.hid (show ∀ d ∈ b :: r.take (run digB r), digB d = true from fun d hm => by
    rcases List.mem_cons.1 hm with rfl | hm
    · exact hb
    · exact run_all _ _ d hm)
  have hdl : (b :: r.take (run digB r)).length ≤ 140737488355328 := by simp; omega
  have hv1 := Lib.hid (show (numR false (b :: r.take (run digB r))).getD 0 = 0 by rw [hv]; rfl)
  have hv2 := Lib.hid (show (numR false (b :: r.take (run digB r))).isSome = false by rw [hv]; rfl)
  have hG := Lib.hid hg
  clear hl
  clear hg hb h0 hlt hv hbb
  go_enter Tryd.func23, Tryd.ntmps23
  go_wp2_with (first | (go_at_call 36; refine (rletter_any s[k] _).mono ?_; rintro e w' ⟨rfl, rfl⟩) | (go_at_call 37; refine (end_dig s k _ _ _ hs (by omega) rfl hrn.out).mono ?_; rintro e w' ⟨rfl, rfl⟩) | (go_at_call 38; refine (value_at false (b :: r.take (run digB r)) _ _ _ hdl hall.out hv1.out hv2.out).mono ?_; rintro e w' ⟨rfl, rfl⟩))
  exact bodyPost_ret (v := .tuple #[.agg #[.int .i64 0, .int .i64 0, .string (bs []), .int .i64 0], .int .i64 0, .int .i64 32]) (by simp [results, Tryd.results23, go_sem, bs]) rfl (none_ret hx.out ((Below.refl _ _).alloc (Nat.le_refl _) _))
set_option maxHeartbeats 800000 in
theorem next_sign_two (b : UInt8) (r : List UInt8) (s : ByteArray) (k : Nat) (w : World) (hs : s.size ≤ 140737488355328) (hl : s.data.toList.drop k = b :: r) (h0 : blB b = false ∧ b.toNat ≠ 35) (h10 : b.toNat ≠ 10) (hlt : letB b = false) (hd : digB b = false) (h95 : b.toNat ≠ 95) (hb : (b.toNat = 60 ∨ b.toNat = 62) ∧ r.head? = some 61) : Calls Tryd.prog 23 #[.string s, .int .i64 k] w (Answers w (nextR k b r)) := by
  have hL := Lib.hid hl
  obtain ⟨hk, hgA⟩ := at_next hl
  have hg := hgA hk
  clear hgA
  have hkz := drop_len hl
  have h95u := Lib.hid h95
  have hx := Lib.hid (next_tok (k := k) (show piece b r = .tok 3 [b, 61] 0 1 by unfold piece; rw [if_neg (by rw [h0.1]; simp), if_neg h0.2, if_neg h10, if_neg (by rw [hlt]; simp), if_neg (by rw [hd]; simp), if_neg (by rintro ⟨e1, e2⟩; omega), if_pos hb]))
  have hx2 := Lib.hid (hx.out.trans (tri (show _ = (k : Int) + 2 by omega)))
  have hsg := Lib.hid (show signW b r = [b, 61] by unfold signW; rw [if_pos hb])
  have h10' : ((s[k].toNat : Int) == 10) = false := by rw [hg]; simp; omega
  have hb' : letB s[k] = false := by rw [hg]; exact hlt
  have h95' : ((s[k].toNat : Int) == 95) = false := by rw [hg]; simp; omega
  have hrn := Lib.hid (show ((k + run digB (s.data.toList.drop k) : Nat) : Int) = (k : Int) by rw [hl, run_cons, hd]; simp)
  have hem := bs_empty (l := [b, 61]) (by simp)
  have hzz : (bs [b, 61]).size = 2 := bs_size _
  have hG := Lib.hid hg
  clear hl
  clear hg h0 hlt hd h10 h95 hb
  go_enter Tryd.func23, Tryd.ntmps23
  go_wp2_with (first | (go_at_call 36; refine (rletter_any s[k] _).mono ?_; rintro e w' ⟨rfl, rfl⟩) | (go_at_call 37; refine (end_dig s k _ _ _ hs (by omega) rfl hrn.out).mono ?_; rintro e w' ⟨rfl, rfl⟩) | (go_at_call 39; refine (rsign_any b r s k _ hs hL.out _ hsg.out).mono ?_; rintro e w' ⟨rfl, rfl⟩))
  have hfin : Answers w (nextR k b r) (.returned (.tuple #[.agg #[.int .i64 3, .int .i64 k, .string (bs [b, 61]), .int .i64 0], .int .i64 ((k : Int) + 2), .int .i64 0])) (w.alloc (.cells #[.int .i64 3, .int .i64 k, .string (bs [b, 61]), .int .i64 0] 32)) := by
    rw [hx2.out]
    exact ⟨rfl, (Below.refl _ _).alloc (Nat.le_refl _) _⟩
  exact bodyPost_ret (by simp [results, Tryd.results23, go_sem]) rfl hfin
set_option maxHeartbeats 800000 in
theorem next_sign_one (b : UInt8) (r : List UInt8) (s : ByteArray) (k : Nat) (w : World) (hs : s.size ≤ 140737488355328) (hl : s.data.toList.drop k = b :: r) (h0 : blB b = false ∧ b.toNat ≠ 35) (h10 : b.toNat ≠ 10) (hlt : letB b = false) (hd : digB b = false) (h95 : b.toNat ≠ 95) (hb : ¬ ((b.toNat = 60 ∨ b.toNat = 62) ∧ r.head? = some 61)) (ho : oneB b = true) : Calls Tryd.prog 23 #[.string s, .int .i64 k] w (Answers w (nextR k b r)) := by
  have hL := Lib.hid hl
  obtain ⟨hk, hgA⟩ := at_next hl
  have hg := hgA hk
  clear hgA
  have hkz := drop_len hl
  have h95u := Lib.hid h95
  have hx := Lib.hid (next_tok (k := k) (show piece b r = .tok 3 [b] 0 0 by unfold piece; rw [if_neg (by rw [h0.1]; simp), if_neg h0.2, if_neg h10, if_neg (by rw [hlt]; simp), if_neg (by rw [hd]; simp), if_neg (by rintro ⟨e1, e2⟩; omega), if_neg hb, if_pos ho]))
  have hx2 := Lib.hid (hx.out.trans (tri (show _ = (k : Int) + 1 by omega)))
  have hsg := Lib.hid (show signW b r = [b] by unfold signW; rw [if_neg hb]; unfold oneW; rw [if_pos ho])
  have h10' : ((s[k].toNat : Int) == 10) = false := by rw [hg]; simp; omega
  have hb' : letB s[k] = false := by rw [hg]; exact hlt
  have h95' : ((s[k].toNat : Int) == 95) = false := by rw [hg]; simp; omega
  have hrn := Lib.hid (show ((k + run digB (s.data.toList.drop k) : Nat) : Int) = (k : Int) by rw [hl, run_cons, hd]; simp)
  have hem := bs_empty (l := [b]) (by simp)
  have hzz : (bs [b]).size = 1 := bs_size _
  have hG := Lib.hid hg
  clear hl
  clear hg h0 hlt hd h10 h95 hb ho
  go_enter Tryd.func23, Tryd.ntmps23
  go_wp2_with (first | (go_at_call 36; refine (rletter_any s[k] _).mono ?_; rintro e w' ⟨rfl, rfl⟩) | (go_at_call 37; refine (end_dig s k _ _ _ hs (by omega) rfl hrn.out).mono ?_; rintro e w' ⟨rfl, rfl⟩) | (go_at_call 39; refine (rsign_any b r s k _ hs hL.out _ hsg.out).mono ?_; rintro e w' ⟨rfl, rfl⟩))
  have hfin : Answers w (nextR k b r) (.returned (.tuple #[.agg #[.int .i64 3, .int .i64 k, .string (bs [b]), .int .i64 0], .int .i64 ((k : Int) + 1), .int .i64 0])) (w.alloc (.cells #[.int .i64 3, .int .i64 k, .string (bs [b]), .int .i64 0] 32)) := by
    rw [hx2.out]
    exact ⟨rfl, (Below.refl _ _).alloc (Nat.le_refl _) _⟩
  exact bodyPost_ret (by simp [results, Tryd.results23, go_sem]) rfl hfin
set_option maxHeartbeats 800000 in
theorem next_sign_none (b : UInt8) (r : List UInt8) (s : ByteArray) (k : Nat) (w : World) (hs : s.size ≤ 140737488355328) (hl : s.data.toList.drop k = b :: r) (h0 : blB b = false ∧ b.toNat ≠ 35) (h10 : b.toNat ≠ 10) (hlt : letB b = false) (hd : digB b = false) (h95 : b.toNat ≠ 95) (hb : ¬ ((b.toNat = 60 ∨ b.toNat = 62) ∧ r.head? = some 61)) (ho : oneB b = false) : Calls Tryd.prog 23 #[.string s, .int .i64 k] w (Answers w (nextR k b r)) := by
  have hL := Lib.hid hl
  obtain ⟨hk, hgA⟩ := at_next hl
  have hg := hgA hk
  clear hgA
  have hkz := drop_len hl
  have h95u := Lib.hid h95
  have hx := Lib.hid (next_bad (k := k) (show piece b r = .bad 31 by unfold piece; rw [if_neg (by rw [h0.1]; simp), if_neg h0.2, if_neg h10, if_neg (by rw [hlt]; simp), if_neg (by rw [hd]; simp), if_neg (by rintro ⟨e1, e2⟩; omega), if_neg hb, if_neg (by rw [ho]; simp)]))
  have hsg := Lib.hid (show signW b r = [] by unfold signW; rw [if_neg hb]; unfold oneW; rw [if_neg (by rw [ho]; simp)])
  have h10' : ((s[k].toNat : Int) == 10) = false := by rw [hg]; simp; omega
  have hb' : letB s[k] = false := by rw [hg]; exact hlt
  have h95' : ((s[k].toNat : Int) == 95) = false := by rw [hg]; simp; omega
  have hrn := Lib.hid (show ((k + run digB (s.data.toList.drop k) : Nat) : Int) = (k : Int) by rw [hl, run_cons, hd]; simp)
  have hem : (bs []).toList.isEmpty = true := by rw [ByteArray.toList_eq, bs_list]; rfl
  have hG := Lib.hid hg
  clear hl
  clear hg h0 hlt hd h10 h95 hb ho
  go_enter Tryd.func23, Tryd.ntmps23
  go_wp2_with (first | (go_at_call 36; refine (rletter_any s[k] _).mono ?_; rintro e w' ⟨rfl, rfl⟩) | (go_at_call 37; refine (end_dig s k _ _ _ hs (by omega) rfl hrn.out).mono ?_; rintro e w' ⟨rfl, rfl⟩) | (go_at_call 39; refine (rsign_any b r s k _ hs hL.out _ hsg.out).mono ?_; rintro e w' ⟨rfl, rfl⟩))
  exact bodyPost_ret (v := .tuple #[.agg #[.int .i64 0, .int .i64 0, .string (bs []), .int .i64 0], .int .i64 0, .int .i64 31]) (by simp [results, Tryd.results23, go_sem, bs]) rfl (none_ret hx.out ((Below.refl _ _).alloc (Nat.le_refl _) _))
set_option maxHeartbeats 800000 in
theorem next_sign_none95 (b : UInt8) (r : List UInt8) (s : ByteArray) (k : Nat) (w : World) (hs : s.size ≤ 140737488355328) (hl : s.data.toList.drop k = b :: r) (h0 : blB b = false ∧ b.toNat ≠ 35) (h10 : b.toNat ≠ 10) (hlt : letB b = false) (hd : digB b = false) (h95 : b.toNat = 95) (hr0 : run digB r = 0) : Calls Tryd.prog 23 #[.string s, .int .i64 k] w (Answers w (nextR k b r)) := by
  have hL := Lib.hid hl
  obtain ⟨hk, hgA⟩ := at_next hl
  have hg := hgA hk
  clear hgA
  have hkz := drop_len hl
  have h95u := Lib.hid h95
  have ho : oneB b = false := by unfold oneB; rw [h95]; rfl
  have hb : ¬ ((b.toNat = 60 ∨ b.toNat = 62) ∧ r.head? = some 61) := by rintro ⟨e, _⟩; omega
  have hx := Lib.hid (next_bad (k := k) (show piece b r = .bad 31 by unfold piece; rw [if_neg (by rw [h0.1]; simp), if_neg h0.2, if_neg h10, if_neg (by rw [hlt]; simp), if_neg (by rw [hd]; simp), if_neg (by rintro ⟨e1, e2⟩; omega), if_neg (by rintro ⟨e1, _⟩; omega), if_neg (by rw [ho]; simp)]))
  have hsg := Lib.hid (show signW b r = [] by unfold signW; rw [if_neg hb]; unfold oneW; rw [if_neg (by rw [ho]; simp)])
  have h10' : ((s[k].toNat : Int) == 10) = false := by rw [hg]; simp; omega
  have hb' : letB s[k] = false := by rw [hg]; exact hlt
  have h95' : ((s[k].toNat : Int) == 95) = true := by rw [hg, h95]; rfl
  have hds := drop_succ hl
  have hrn := Lib.hid (show (((k + 1) + run digB (s.data.toList.drop (k + 1)) : Nat) : Int) = (k : Int) + 1 by rw [hds, hr0]; omega)
  have hki := Lib.hid (show ((k + 1 : Nat) : Int) = (k : Int) + 1 by omega)
  have hem : (bs []).toList.isEmpty = true := by rw [ByteArray.toList_eq, bs_list]; rfl
  have hG := Lib.hid hg
  clear hl
  clear hg h0 hlt hd h10 h95 hb ho hds hr0
  go_enter Tryd.func23, Tryd.ntmps23
  go_wp2_with (first | (go_at_call 36; refine (rletter_any s[k] _).mono ?_; rintro e w' ⟨rfl, rfl⟩) | (go_at_call 37; refine (end_dig s (k + 1) _ _ _ hs (by omega) hki.out hrn.out).mono ?_; rintro e w' ⟨rfl, rfl⟩) | (go_at_call 39; refine (rsign_any b r s k _ hs hL.out _ hsg.out).mono ?_; rintro e w' ⟨rfl, rfl⟩))
  exact bodyPost_ret (v := .tuple #[.agg #[.int .i64 0, .int .i64 0, .string (bs []), .int .i64 0], .int .i64 0, .int .i64 31]) (by simp [results, Tryd.results23, go_sem, bs]) rfl (none_ret hx.out ((Below.refl _ _).alloc (Nat.le_refl _) _))

theorem next_any (b : UInt8) (r : List UInt8) (s : ByteArray) (k : Nat) (w : World) (hs : s.size ≤ 140737488355328) (hl : s.data.toList.drop k = b :: r) (h0 : blB b = false ∧ b.toNat ≠ 35) : Calls Tryd.prog 23 #[.string s, .int .i64 k] w (Answers w (nextR k b r)) := by
  by_cases h10 : b.toNat = 10
  · exact next_line b r s k w hs hl h10
  cases hlt : letB b with
  | true =>
    by_cases hn : 15 < run alnB r
    · exact next_word_far b r s k w hs hl h0 h10 hlt hn
    · exact next_word_ok b r s k w hs hl h0 h10 hlt hn
  | false =>
    cases hd : digB b with
    | true =>
      cases hv : numR false (b :: r.take (run digB r)) with
      | some v => exact next_num_pos_ok b r s k w hs hl v h0 hd hv
      | none => exact next_num_pos_far b r s k w hs hl h0 hd hv
    | false =>
      by_cases h95 : b.toNat = 95
      · by_cases hr : 0 < run digB r
        · cases hv : numR true (r.take (run digB r)) with
          | some v => exact next_num_neg_ok b r s k w hs hl v h0 h95 hr hv
          | none => exact next_num_neg_far b r s k w hs hl h0 h95 hr hv
        · exact next_sign_none95 b r s k w hs hl h0 h10 hlt hd h95 (by omega)
      · by_cases hb : (b.toNat = 60 ∨ b.toNat = 62) ∧ r.head? = some 61
        · exact next_sign_two b r s k w hs hl h0 h10 hlt hd h95 hb
        · cases ho : oneB b with
          | true => exact next_sign_one b r s k w hs hl h0 h10 hlt hd h95 hb ho
          | false => exact next_sign_none b r s k w hs hl h0 h10 hlt hd h95 hb ho
end Go.Proofs.YtphcjpomneejmaaDoor
