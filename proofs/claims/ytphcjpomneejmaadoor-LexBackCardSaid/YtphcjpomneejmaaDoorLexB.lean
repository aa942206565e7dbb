/- Contracts of package lex: what begins a text. -/
import Derived.Sort.Grow
import Derived.Lib.LaidTab
import Derived.Lib.AtoiErrMem
import Derived.Test.YtphcjpomneejmaaDoorLexA
import Derived.Test.YtphcjpomneejmaaDoorLexN
namespace Go.Proofs.YtphcjpomneejmaaDoor
open Go.RowKit

/-! ### strings as lists of bytes -/
def bs (l : List UInt8) : ByteArray := ⟨l.toArray⟩
theorem bs_list (l : List UInt8) : (bs l).data.toList = l := by simp [bs]
theorem bs_of (s : ByteArray) : bs s.data.toList = s := by cases s; simp [bs]
theorem bs_size (l : List UInt8) : (bs l).size = l.length := by simp [bs, ByteArray.size]
theorem bs_eq {s : ByteArray} {l : List UInt8} (h : s.data.toList = l) : s = bs l := by rw [← h, bs_of]
theorem bs_inj {l r : List UInt8} (h : bs l = bs r) : l = r := by rw [← bs_list l, h, bs_list]
theorem ext_list (s : ByteArray) (i j : Nat) : (s.extract i j).data.toList = (s.data.toList.take j).drop i := by
  rw [ByteArray.data_extract, Array.toList_extract, List.extract_eq_drop_take', List.drop_take]
theorem app_list (s t : ByteArray) : (s ++ t).data.toList = s.data.toList ++ t.data.toList := by
  rw [ByteArray.data_append, Array.toList_append]

/-! ### what is laid, and stays -/
def Laid (w : World) : Prop := Lib.TabIs Tryd.prog w "internal/strconv.uint64pow10" .u64 Lib.pow10Tab ∧ ∃ tp p, w.var? Tryd.prog "strconv.ErrRange" = some #[.iface tp p]
theorem var_below {w w' : World} {n : String} {cs : Array Value} (hb : Below w.heap.size w w') (h : w.var? Tryd.prog n = some cs) : w'.var? Tryd.prog n = some cs := by
  unfold World.var? at h ⊢
  cases hg : Tryd.prog.globalNamed n with
  | none => simp [hg] at h
  | some g =>
    simp only [hg, Option.bind_some] at h ⊢
    have hlt : g < w.heap.size := by
      rcases Nat.lt_or_ge g w.heap.size with h' | h'
      · exact h'
      · simp [Array.getElem?_eq_none h'] at h
    rw [hb.block g hlt]; exact h
theorem Laid.below {w w' : World} (h : Laid w) (hb : Below w.heap.size w w') : Laid w' := by
  obtain ⟨h1, tp, p, h2⟩ := h
  exact ⟨var_below hb h1, tp, p, var_below hb h2⟩
/-- From w to w': some draws, some new blocks; nothing that was there has turned. -/
def Gr (w w' : World) : Prop := ∃ (n : Nat) (os : Array Obj), w' = Go.Sort.grow (w.drewN n) os
theorem Gr.below {w w' : World} (h : Gr w w') : Below w.heap.size w w' := by
  obtain ⟨n, os, rfl⟩ := h
  exact ⟨rfl, rfl, rfl, by simp [Go.Sort.grow], fun k hk => Go.Sort.heap_grow_old (w.drewN n) os hk⟩

theorem bcell {W w1 : World} (hb : Below W.heap.size W w1) : (∀ b o, b < W.heap.size → w1.cell? ⟨b, o, none⟩ = W.cell? ⟨b, o, none⟩) ∧ (∀ b o, b < W.heap.size → w1.frozen? ⟨b, o, none⟩ = W.frozen? ⟨b, o, none⟩) :=
  ⟨fun b o h => hb.cell (p := ⟨b, o, none⟩) h, fun b o h => hb.frozen (p := ⟨b, o, none⟩) h⟩
set_option maxHeartbeats 400000 in
theorem clone_any (s : ByteArray) (w : World) (hs : s.size ≤ 140737488355328) : Calls Tryd.prog 24 #[.string s] w fun e w' => e = .returned (.string s) ∧ Below w.heap.size w w' := by
  go_enter Tryd.func24, Tryd.ntmps24
  go_wp2_with (go_at_call 40; go_loud (refine (Tryd.clone s _ (by omega)).mono ?_; rintro e w' ⟨rfl, hb⟩))
  go_ret
  exact ⟨rfl, hb⟩

/-! ### what the four answer -/
def tk0 : Tk := ⟨0, 0, [], 0⟩
def lineR (b : UInt8) (_ : List UInt8) : Tk × Int × Int := if b.toNat = 10 then (⟨4, 0, [], 0⟩, 1, 0) else (tk0, 0, 0)
def wordR (b : UInt8) (r : List UInt8) : Tk × Int × Int := if letB b then (if 15 < run alnB r then (tk0, 0, 33) else (⟨1, 0, b :: r.take (run alnB r), 0⟩, (run alnB r + 1 : Nat), 0)) else (tk0, 0, 0)
def Answers (w : World) (x : Tk × Int × Int) (e : Ending) (w' : World) : Prop := e = .returned (.tuple #[.agg #[.int .i64 x.1.k, .int .i64 x.1.a, .string (bs x.1.w), .int .i64 x.1.n], .int .i64 x.2.1, .int .i64 x.2.2]) ∧ Below w.heap.size w w'
theorem str_nil : ({ data := #[] } : ByteArray) = bs [] := rfl

set_option maxHeartbeats 400000 in
theorem line_any (b : UInt8) (r : List UInt8) (s : ByteArray) (w : World) (hl : s.data.toList = b :: r) : Calls Tryd.prog 18 #[.string s] w (Answers w (lineR b r)) := by
  have h0 : 0 < s.size := by rw [← len_s, hl]; simp
  have hg : s[0] = b := by rw [← get_s s 0 h0, hl]; rfl
  have HR : Hid (s.data.toList = b :: r) := hl
  clear hl
  by_cases hb : b.toNat = 10
  · have hx := Lib.hid (show lineR b r = (⟨4, 0, [], 0⟩, 1, 0) by simp [lineR, hb])
    have hb : ((s[0].toNat : Int) != 10) = false := by rw [hg]; simp [hb]
    clear hg
    go_enter Tryd.func18, Tryd.ntmps18
    go_wp2
    exact bodyPost_ret (v := .tuple #[.agg #[.int .i64 4, .int .i64 0, .string (bs []), .int .i64 0], .int .i64 1, .int .i64 0]) (by simp [results, Tryd.results18, go_sem, bs]) rfl ⟨by rw [hx.out], (Below.refl _ _).alloc (Nat.le_refl _) _⟩
  · have hx := Lib.hid (show lineR b r = (tk0, 0, 0) by simp [lineR, hb])
    have hb : ((s[0].toNat : Int) != 10) = true := by rw [hg]; simp; omega
    clear hg
    go_enter Tryd.func18, Tryd.ntmps18
    go_wp2
    exact bodyPost_ret (v := .tuple #[.agg #[.int .i64 0, .int .i64 0, .string (bs []), .int .i64 0], .int .i64 0, .int .i64 0]) (by simp [results, Tryd.results18, go_sem, bs]) rfl ⟨by rw [hx.out]; rfl, (Below.refl _ _).alloc (Nat.le_refl _) _⟩

theorem bset4 {n : Nat} {w w' : World} (hb : Below n w w') {b : Nat} (h : n ≤ b) (v0 v1 v2 v3 : Value) : Below n w ((((w'.setCell ⟨b, 0, none⟩ v0).setCell ⟨b, 1, none⟩ v1).setCell ⟨b, 2, none⟩ v2).setCell ⟨b, 3, none⟩ v3) :=
  (((hb.setCell (p := ⟨b, 0, none⟩) h _).setCell (p := ⟨b, 1, none⟩) h _).setCell (p := ⟨b, 2, none⟩) h _).setCell (p := ⟨b, 3, none⟩) h _
theorem none_ret {w w1 : World} {x : Tk × Int × Int} {e : Int} (hx : x = (tk0, 0, e)) (hb : Below w.heap.size w w1) : Answers w x (.returned (.tuple #[.agg #[.int .i64 0, .int .i64 0, .string (bs []), .int .i64 0], .int .i64 0, .int .i64 e])) w1 := by
  subst hx; exact ⟨rfl, hb⟩
set_option maxHeartbeats 1000000 in
theorem word_any (b : UInt8) (r : List UInt8) (s : ByteArray) (w : World) (hs : s.size ≤ 140737488355328) (hl : s.data.toList = b :: r) : Calls Tryd.prog 19 #[.string s] w (Answers w (wordR b r)) := by
  have h0 : 0 < s.size := by rw [← len_s, hl]; simp
  have hg : s[0] = b := by rw [← get_s s 0 h0, hl]; rfl
  have hsz : s.size = r.length + 1 := by rw [← len_s, hl]; rfl
  have hml : s.size ≤ maxLen := by unfold maxLen; omega
  by_cases hb : letB b = true
  · have hrun := Lib.hid (show run alnB s.data.toList = run alnB r + 1 by rw [hl, run_cons, if_pos (by unfold alnB; rw [hb]; rfl)])
    have hle : run alnB r ≤ r.length := run_le _ _
    have hlr : run alnB s.data.toList ≤ s.size := by rw [← len_s]; exact run_le _ _
    by_cases hn : 15 < run alnB r
    · have hx := Lib.hid (show wordR b r = (tk0, 0, 33) by simp [wordR, hb, hn])
      have hb : letB s[0] = true := by rw [hg]; exact hb
      have hn : 16 < run alnB s.data.toList := by rw [hrun.out]; omega
      have HL : Hid (s.data.toList = b :: r) := hl
      have HG := Lib.hid hg
      have HZ := Lib.hid hsz
      clear hl hg hsz
      go_enter Tryd.func19, Tryd.ntmps19
      go_wp2_with (first | (go_at_call 27; refine (letter_any s[0] _).mono ?_; rintro e w' ⟨rfl, rfl⟩) | (go_at_call 28; refine (span_aln s _ hml).mono ?_; rintro e w' ⟨rfl, rfl⟩))
      exact bodyPost_ret (v := .tuple #[.agg #[.int .i64 0, .int .i64 0, .string (bs []), .int .i64 0], .int .i64 0, .int .i64 33]) (by simp [results, Tryd.results19, go_sem, bs]) rfl (none_ret hx.out ((Below.refl _ _).alloc (Nat.le_refl _) _))
    · have hx := Lib.hid (show wordR b r = ((⟨1, 0, b :: r.take (run alnB r), 0⟩ : Tk), ((run alnB r + 1 : Nat) : Int), (0 : Int)) by simp [wordR, hb, hn])
      have hb : letB s[0] = true := by rw [hg]; exact hb
      have hn : run alnB s.data.toList ≤ 16 := by rw [hrun.out]; omega
      have hex := Lib.hid (show s.extract 0 (run alnB s.data.toList) = bs (b :: r.take (run alnB r)) from bs_eq (by rw [ext_list, hrun.out, hl]; rfl))
      have hez : (s.extract 0 (run alnB s.data.toList)).size ≤ 140737488355328 := by rw [hex.out, bs_size]; simp; omega
      have HL : Hid (s.data.toList = b :: r) := hl
      have HG := Lib.hid hg
      have HZ := Lib.hid hsz
      clear hl hg hsz
      go_enter Tryd.func19, Tryd.ntmps19
      go_wp2_with (first | (go_at_call 27; refine (letter_any s[0] _).mono ?_; rintro e w' ⟨rfl, rfl⟩) | (go_at_call 28; refine (span_aln s _ hml).mono ?_; rintro e w' ⟨rfl, rfl⟩) | (go_at_call 24; refine (clone_any _ _ hez).mono ?_; rintro e w' ⟨rfl, hb1⟩; obtain ⟨hc, hf⟩ := bcell hb1))
      exact bodyPost_ret (v := .tuple #[.agg #[.int .i64 1, .int .i64 0, .string (s.extract 0 (run alnB s.data.toList)), .int .i64 0], .int .i64 (run alnB s.data.toList : Nat), .int .i64 0]) (by simp [results, Tryd.results19, go_sem, hc]) rfl ⟨by rw [hx.out, hex.out, hrun.out], bset4 (((Below.refl _ _).alloc (Nat.le_refl _) _).trans (hb1.mono (by simp))) (Nat.le_refl _) _ _ _ _⟩
  · have hb : letB b = false := by simpa using hb
    have hx := Lib.hid (show wordR b r = (tk0, 0, 0) by simp [wordR, hb])
    have hb : letB s[0] = false := by rw [hg]; exact hb
    have HL : Hid (s.data.toList = b :: r) := hl
    have HG := Lib.hid hg
    have HZ := Lib.hid hsz
    clear hl hg hsz
    go_enter Tryd.func19, Tryd.ntmps19
    go_wp2_with (first | (go_at_call 27; refine (letter_any s[0] _).mono ?_; rintro e w' ⟨rfl, rfl⟩) | (go_at_call 28; refine (span_aln s _ hml).mono ?_; rintro e w' ⟨rfl, rfl⟩))
    exact bodyPost_ret (v := .tuple #[.agg #[.int .i64 0, .int .i64 0, .string (bs []), .int .i64 0], .int .i64 0, .int .i64 0]) (by simp [results, Tryd.results19, go_sem, bs]) rfl (none_ret hx.out ((Below.refl _ _).alloc (Nat.le_refl _) _))

/-! ### the library's numbers -/
theorem parse_ok (s : ByteArray) (w : World) (hs : s.size ≤ 281474976710656) (v : Int) (h : Lib.parseIntB 64 s.data.toList = .ok v) :
    Calls Tryd.prog 32 #[.string s, .int .i64 10, .int .i64 64] w fun e w' => e = .returned (.tuple #[.int .i64 v, .nilIface]) ∧ Below w.heap.size w w' :=
  (Tryd.parseInt_ok s (by omega) v h w).mono fun e w' ⟨he, hw⟩ => ⟨he, by
    rcases hw with rfl | ⟨t, rfl⟩
    · exact Below.refl _ _
    · exact Lib.bytesWorld_below _ _ _⟩
theorem parse_range (s : ByteArray) (w : World) (hL : Laid w) (hs : s.size ≤ 281474976710656) (h : Lib.parseIntB 64 s.data.toList = .range) :
    Calls Tryd.prog 32 #[.string s, .int .i64 10, .int .i64 64] w fun e w' => ∃ (v : Int) (t : TypeId) (p : Value), e = .returned (.tuple #[.int .i64 v, .iface t p]) ∧ Below w.heap.size w w' := by
  obtain ⟨_, tp, p, hv⟩ := hL
  exact (Tryd.parseInt_range s hs h tp p w hv).mono fun e w' ⟨N, he, _, _, hb⟩ => ⟨_, _, _, he, hb⟩
theorem cut_yes (s : ByteArray) (p : UInt8) (r : List UInt8) (w : World) (h : s.data.toList = p :: r) : Calls Tryd.prog 31 #[.string s, .string ⟨#[p]⟩] w fun e w' => e = .returned (.tuple #[.string (bs r), .bool true]) ∧ w' = w :=
  (Tryd.cutPrefix s ⟨#[p]⟩ w).mono fun e w' ⟨he, hw⟩ => ⟨by rw [he, h]; simp [Lib.trimPrefix, Lib.hasPrefix, bs], hw⟩
theorem cut_no (s : ByteArray) (p : UInt8) (w : World) (h : s.data.toList.head? ≠ some p) : Calls Tryd.prog 31 #[.string s, .string ⟨#[p]⟩] w fun e w' => e = .returned (.tuple #[.string s, .bool false]) ∧ w' = w :=
  (Tryd.cutPrefix s ⟨#[p]⟩ w).mono fun e w' ⟨he, hw⟩ => ⟨by
    have e1 : Lib.hasPrefix s.data.toList [p] = false := by
      unfold Lib.hasPrefix
      cases hl : s.data.toList with
      | nil => rfl
      | cons c r =>
        rw [hl] at h
        have : ¬ c = p := by simpa using h
        simp [List.isPrefixOf]
        exact fun e => this e.symm
    rw [he]
    have e2 : Lib.trimPrefix s.data.toList [p] = s.data.toList := by unfold Lib.trimPrefix; rw [e1]; simp
    show Ending.returned (.tuple #[.string ⟨(Lib.trimPrefix s.data.toList [p]).toArray⟩, .bool (Lib.hasPrefix s.data.toList [p])]) = _
    rw [e1, e2], hw⟩
end Go.Proofs.YtphcjpomneejmaaDoor
