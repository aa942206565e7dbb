/- Layer 4, put together: ShrI, ShrJ, ShrK. -/
import Derived.Test.YtbapgdhcbfpdoaaGreatDoorYRc
import Derived.Test.YtbapgdhcbfpdoaaGreatDoorYRd
import Derived.Test.YtbapgdhcbfpdoaaGreatDoorYRe
import Derived.Test.YtbapgdhcbfpdoaaGreatDoorYRf
import Derived.Test.YtbapgdhcbfpdoaaGreatDoorYPg
/- The document's step, whole. -/
namespace Go.Proofs.YtbapgdhcbfpdoaaGreatDoor
open Go.RowKit
set_option linter.unusedVariables false
set_option linter.unusedSimpArgs false
set_option maxRecDepth 100000
theorem OkR.st {w w' : World} {B m : Nat} {r st : List Pt} {P : Pt} {x : It} {e : Ending} (h : OkR w B m r P e w') (hr : r.length = m) (hs : stepP st x = some (P :: r)) : stR st x w B e w' := by
  obtain ⟨hb, A, c, he, ho⟩ := h
  refine ⟨hb, ?_⟩
  rw [hs]
  refine ⟨A, c, ?_, ?_⟩
  · rw [List.length_cons, hr]; exact he
  · rw [List.length_cons, hr, List.reverse_cons]; exact ho
theorem ok5_yes {x : It} (h1 : 3 ≤ x.how) (h2 : x.how ≤ 7) (h3 : x.ns.length = 0) (h4 : x.nm = []) (h5 : verbW x.fn (x.how != 3) ≠ []) (h6 : x.how = 3 ∨ x.how = 4 ∨ tk2 x.fn = true) : okI x = true := by
  unfold okI
  rw [decide_eq_true ⟨h1, h2, List.length_eq_zero_iff.1 h3, h4, h5⟩]
  rcases h6 with h | h | h <;> rw [h] <;> simp
theorem step5_mono {x : It} {p : Pt} {r : List Pt} (h : okI x = true) (h1 : x.how = 3 ∨ x.how = 5 ∨ x.how = 6) : stepP (p :: r) x = some (monP x p :: r) := by
  unfold stepP
  rw [if_neg (by omega), h, if_neg (by decide), if_neg (by unfold twoI; rw [decide_eq_false (by omega)]; decide)]
theorem step5_dy {x : It} {p q : Pt} {r : List Pt} (h : okI x = true) (h1 : x.how = 4 ∨ x.how = 7) : stepP (q :: p :: r) x = some (dyP x p q :: r) := by
  unfold stepP
  rw [if_neg (by omega), h, if_neg (by decide), if_pos (by unfold twoI; exact decide_eq_true h1)]
theorem last_cells {w : World} {B m : Nat} {v : Value} {p : Pt} {r : List Pt} (hr : r.length = m) (h : w.ownsRow B 92 4 v (m + 1) (((p :: r).reverse).flatMap ptC)) : ∃ g c0, v = .slice (some ⟨g, 0, none⟩) (m + 1) c0 ∧ m + 1 ≤ c0 ∧ g < w.heap.size ∧
    w.cell? ⟨g, m * 4, none⟩ = some (.string (bs p.s)) ∧ w.cell? ⟨g, m * 4 + 1, none⟩ = some (.bool p.pl) ∧ w.cell? ⟨g, m * 4 + 2, none⟩ = some (.int .i64 p.tk) ∧ w.cell? ⟨g, m * 4 + 3, none⟩ = some (.int .i64 p.ne) := by
  rw [List.reverse_cons] at h
  have hl : (r.reverse ++ [p]).length = m + 1 := by simp [hr]
  have ho : OP w B v (r.reverse ++ [p]) := by unfold OP; rw [hl]; exact h
  obtain ⟨g, c, e, h1, h2, _, h4, h5, h6, h7⟩ := ho.cells m (by omega)
  have hp : (r.reverse ++ [p]).getD m default = p := by subst hr; simp
  rw [hp] at h4 h5 h6 h7
  rw [hl] at e h1
  exact ⟨g, c, e, h1, h2, h4, h5, h6, h7⟩
theorem last_cells2 {w : World} {B m : Nat} {v : Value} {p q : Pt} {r : List Pt} (hr : r.length = m) (h : w.ownsRow B 92 4 v (m + 2) (((q :: p :: r).reverse).flatMap ptC)) : ∃ g c0, v = .slice (some ⟨g, 0, none⟩) (m + 2) c0 ∧ m + 2 ≤ c0 ∧ g < w.heap.size ∧
    (w.cell? ⟨g, m * 4, none⟩ = some (.string (bs p.s)) ∧ w.cell? ⟨g, m * 4 + 1, none⟩ = some (.bool p.pl) ∧ w.cell? ⟨g, m * 4 + 2, none⟩ = some (.int .i64 p.tk) ∧ w.cell? ⟨g, m * 4 + 3, none⟩ = some (.int .i64 p.ne)) ∧
    w.cell? ⟨g, (m + 1) * 4, none⟩ = some (.string (bs q.s)) ∧ w.cell? ⟨g, (m + 1) * 4 + 1, none⟩ = some (.bool q.pl) ∧ w.cell? ⟨g, (m + 1) * 4 + 2, none⟩ = some (.int .i64 q.tk) ∧ w.cell? ⟨g, (m + 1) * 4 + 3, none⟩ = some (.int .i64 q.ne) := by
  rw [List.reverse_cons, List.reverse_cons, List.append_assoc] at h
  have hl : (r.reverse ++ ([p] ++ [q])).length = m + 2 := by simp [hr]
  have ho : OP w B v (r.reverse ++ ([p] ++ [q])) := by unfold OP; rw [hl]; exact h
  obtain ⟨g, c, e, h1, h2, _, h4, h5, h6, h7⟩ := ho.cells m (by omega)
  obtain ⟨g2, c2, e2, _, _, _, k4, k5, k6, k7⟩ := ho.cells (m + 1) (by omega)
  have hp : (r.reverse ++ ([p] ++ [q])).getD m default = p := by subst hr; simp
  have hq : (r.reverse ++ ([p] ++ [q])).getD (m + 1) default = q := by subst hr; simp [List.getD_eq_getElem?_getD, List.getElem?_append_right]
  rw [hp] at h4 h5 h6 h7
  rw [hq] at k4 k5 k6 k7
  rw [e] at e2
  injection e2 with e2 _ _
  injection e2 with e2
  injection e2 with e2 _ _
  subst e2
  rw [hl] at e h1
  exact ⟨g, c, e, h1, h2, ⟨h4, h5, h6, h7⟩, k4, k5, k6, k7⟩
def PtS (p : Pt) : Prop := p.s.length ≤ 2000000 ∧ p.tk ≤ 100000 ∧ p.ne ≤ 100000
theorem step5_how3 (x : It) (A : Option Addr) (c : Nat) (w : World) (B : Nat) (st : List Pt) (v : Value) (n : Nat) (hn : st.length = n) (h : w.ownsRow B 92 4 v n (st.reverse.flatMap ptC)) (hB : B ≤ w.heap.size) (hn2 : n ≤ 1000) (hs : ∀ p ∈ st, PtS p) (hb : ItB x) (hh : x.how = 3) :
    Calls Tryz.prog 43 #[v, itX x A c] w (stR st x w B) := by
  by_cases h0 : 0 < x.ns.length
  · exact step5_ns3 x A c w B st v hB hh h0 hb.len
  have h0 : x.ns.length = 0 := by omega
  by_cases h1 : x.nm = []
  case neg => exact step5_nm3 x A c w B st v hB hh h0 h1
  have htw : (x.how != 3) = false := by rw [hh]; rfl
  cases st with
  | nil =>
    obtain rfl : n = 0 := hn.symm
    obtain ⟨A0, c0, rfl, _⟩ := row_shape h
    exact step5_nil3 x A c w B A0 c0 hB hh h0 h1
  | cons p r =>
    obtain ⟨m, rfl⟩ : ∃ m, n = m + 1 := ⟨r.length, by rw [← hn]; rfl⟩
    have hr : r.length = m := by simp only [List.length_cons] at hn; omega
    obtain ⟨g, c0, rfl, hc0, hg, p0, p1, p2, p3⟩ := last_cells hr h
    obtain ⟨hp1, hp2, hp3⟩ := hs p (List.mem_cons_self ..)
    by_cases hv : verbW x.fn false = []
    · exact step5_vb3 x A c w B (p :: r) g m c0 p hB hg (by omega) (by omega) hc0 hh h0 h1 hv p0 p1 p2 p3
    have hok : okI x = true := ok5_yes (by omega) (by omega) h0 h1 (by rw [htw]; exact hv) (.inl hh)
    have hst := step5_mono (p := p) (r := r) hok (by omega)
    rw [List.reverse_cons] at h
    refine (step5_ok3 x A c w B r g m c0 p (verbW x.fn false) hB hg (by omega) hc0 hh h0 h1 hv (verbW_le _ _) hp1 hp2 hp3 hr h (fun W => verb5_any x.fn false W) p0 p1 p2 p3).mono fun e w' hh2 => OkR.st hh2 hr ?_
    rw [hst]
    unfold monP
    rw [htw, hh]
    simp [markW]
theorem step5_how4 (x : It) (A : Option Addr) (c : Nat) (w : World) (B : Nat) (st : List Pt) (v : Value) (n : Nat) (hn : st.length = n) (h : w.ownsRow B 92 4 v n (st.reverse.flatMap ptC)) (hB : B ≤ w.heap.size) (hn2 : n ≤ 1000) (hs : ∀ p ∈ st, PtS p) (hb : ItB x) (hh : x.how = 4) :
    Calls Tryz.prog 43 #[v, itX x A c] w (stR st x w B) := by
  by_cases h0 : 0 < x.ns.length
  · exact step5_ns4 x A c w B st v hB hh h0 hb.len
  have h0 : x.ns.length = 0 := by omega
  by_cases h1 : x.nm = []
  case neg => exact step5_nm4 x A c w B st v hB hh h0 h1
  have htw : (x.how != 3) = true := by rw [hh]; rfl
  cases st with
  | nil =>
    obtain rfl : n = 0 := hn.symm
    obtain ⟨A0, c0, rfl, _⟩ := row_shape h
    exact step5_nil4 x A c w B A0 c0 hB hh h0 h1
  | cons p r =>
    cases r with
    | nil =>
      obtain rfl : n = 1 := hn.symm
      obtain ⟨A0, c0, rfl, _⟩ := row_shape h
      exact step5_one4 x A c w B p A0 c0 hB hh h0 h1
    | cons q r =>
      obtain ⟨m, rfl⟩ : ∃ m, n = m + 2 := ⟨r.length, by rw [← hn]; rfl⟩
      have hr : r.length = m := by simp only [List.length_cons] at hn; omega
      obtain ⟨g, c0, rfl, hc0, hg, ⟨p0, p1, p2, p3⟩, q0, q1, q2, q3⟩ := last_cells2 hr h
      obtain ⟨hp1, hp2, hp3⟩ := hs p (List.mem_cons_self ..)
      obtain ⟨hq1, hq2, hq3⟩ := hs q (List.mem_cons_of_mem _ (List.mem_cons_self ..))
      by_cases hv : verbW x.fn true = []
      · exact step5_vb4 x A c w B (p :: q :: r) g (m + 1) c0 p hB hg (by omega) (by omega) hc0 hh h0 h1 hv q0 q1 q2 q3
      have hok : okI x = true := ok5_yes (by omega) (by omega) h0 h1 (by rw [htw]; exact hv) (.inr (.inl hh))
      have hst := step5_dy (p := q) (q := p) (r := r) hok (by omega)
      rw [List.reverse_cons, List.reverse_cons, List.append_assoc] at h
      refine (step5_ok4 x A c w B r g m c0 q p (verbW x.fn true) hB hg (by omega) hc0 hh h0 h1 hv (verbW_le _ _) hq1 hq2 hq3 hp1 hp2 hp3 hr h (fun W => verb5_any x.fn true W) p0 p1 p2 p3 q0 q1 q2 q3).mono fun e w' hh2 => OkR.st hh2 hr ?_
      rw [hst]
      unfold dyP
      rw [htw, hh]
      simp [markW]
theorem step5_how5 (x : It) (A : Option Addr) (c : Nat) (w : World) (B : Nat) (st : List Pt) (v : Value) (n : Nat) (hn : st.length = n) (h : w.ownsRow B 92 4 v n (st.reverse.flatMap ptC)) (hB : B ≤ w.heap.size) (hn2 : n ≤ 1000) (hs : ∀ p ∈ st, PtS p) (hb : ItB x) (hh : x.how = 5) :
    Calls Tryz.prog 43 #[v, itX x A c] w (stR st x w B) := by
  by_cases h0 : 0 < x.ns.length
  · exact step5_ns5 x A c w B st v hB hh h0 hb.len
  have h0 : x.ns.length = 0 := by omega
  by_cases h1 : x.nm = []
  case neg => exact step5_nm5 x A c w B st v hB hh h0 h1
  have htw : (x.how != 3) = true := by rw [hh]; rfl
  cases st with
  | nil =>
    obtain rfl : n = 0 := hn.symm
    obtain ⟨A0, c0, rfl, _⟩ := row_shape h
    exact step5_nil5 x A c w B A0 c0 hB hh h0 h1
  | cons p r =>
    obtain ⟨m, rfl⟩ : ∃ m, n = m + 1 := ⟨r.length, by rw [← hn]; rfl⟩
    have hr : r.length = m := by simp only [List.length_cons] at hn; omega
    obtain ⟨g, c0, rfl, hc0, hg, p0, p1, p2, p3⟩ := last_cells hr h
    obtain ⟨hp1, hp2, hp3⟩ := hs p (List.mem_cons_self ..)
    by_cases hv : verbW x.fn true = []
    · exact step5_vb5 x A c w B (p :: r) g m c0 p hB hg (by omega) (by omega) hc0 hh h0 h1 hv p0 p1 p2 p3
    by_cases ht : tk2 x.fn = true
    case neg => exact step5_tk5 x A c w B (p :: r) g m c0 p hB hg (by omega) (by omega) hc0 hh h0 h1 hv (by simpa using ht) p0 p1 p2 p3
    have hok : okI x = true := ok5_yes (by omega) (by omega) h0 h1 (by rw [htw]; exact hv) (.inr (.inr ht))
    have hst := step5_mono (p := p) (r := r) hok (by omega)
    rw [List.reverse_cons] at h
    refine (step5_ok5 x A c w B r g m c0 p (verbW x.fn true) hB hg (by omega) hc0 hh h0 h1 hv (verbW_le _ _) hp1 hp2 hp3 hr h (fun W => verb5_any x.fn true W) (fun W => by have := rtk_any x.fn W; rw [ht] at this; exact this) p0 p1 p2 p3).mono fun e w' hh2 => OkR.st hh2 hr ?_
    rw [hst]
    unfold monP
    rw [htw, hh]
    simp [markW]
theorem step5_how6 (x : It) (A : Option Addr) (c : Nat) (w : World) (B : Nat) (st : List Pt) (v : Value) (n : Nat) (hn : st.length = n) (h : w.ownsRow B 92 4 v n (st.reverse.flatMap ptC)) (hB : B ≤ w.heap.size) (hn2 : n ≤ 1000) (hs : ∀ p ∈ st, PtS p) (hb : ItB x) (hh : x.how = 6) :
    Calls Tryz.prog 43 #[v, itX x A c] w (stR st x w B) := by
  by_cases h0 : 0 < x.ns.length
  · exact step5_ns6 x A c w B st v hB hh h0 hb.len
  have h0 : x.ns.length = 0 := by omega
  by_cases h1 : x.nm = []
  case neg => exact step5_nm6 x A c w B st v hB hh h0 h1
  have htw : (x.how != 3) = true := by rw [hh]; rfl
  cases st with
  | nil =>
    obtain rfl : n = 0 := hn.symm
    obtain ⟨A0, c0, rfl, _⟩ := row_shape h
    exact step5_nil6 x A c w B A0 c0 hB hh h0 h1
  | cons p r =>
    obtain ⟨m, rfl⟩ : ∃ m, n = m + 1 := ⟨r.length, by rw [← hn]; rfl⟩
    have hr : r.length = m := by simp only [List.length_cons] at hn; omega
    obtain ⟨g, c0, rfl, hc0, hg, p0, p1, p2, p3⟩ := last_cells hr h
    obtain ⟨hp1, hp2, hp3⟩ := hs p (List.mem_cons_self ..)
    by_cases hv : verbW x.fn true = []
    · exact step5_vb6 x A c w B (p :: r) g m c0 p hB hg (by omega) (by omega) hc0 hh h0 h1 hv p0 p1 p2 p3
    by_cases ht : tk2 x.fn = true
    case neg => exact step5_tk6 x A c w B (p :: r) g m c0 p hB hg (by omega) (by omega) hc0 hh h0 h1 hv (by simpa using ht) p0 p1 p2 p3
    have hok : okI x = true := ok5_yes (by omega) (by omega) h0 h1 (by rw [htw]; exact hv) (.inr (.inr ht))
    have hst := step5_mono (p := p) (r := r) hok (by omega)
    rw [List.reverse_cons] at h
    refine (step5_ok6 x A c w B r g m c0 p (verbW x.fn true) hB hg (by omega) hc0 hh h0 h1 hv (verbW_le _ _) hp1 hp2 hp3 hr h (fun W => verb5_any x.fn true W) (fun W => by have := rtk_any x.fn W; rw [ht] at this; exact this) p0 p1 p2 p3).mono fun e w' hh2 => OkR.st hh2 hr ?_
    rw [hst]
    unfold monP
    rw [htw, hh]
    simp [markW]
theorem step5_how7 (x : It) (A : Option Addr) (c : Nat) (w : World) (B : Nat) (st : List Pt) (v : Value) (n : Nat) (hn : st.length = n) (h : w.ownsRow B 92 4 v n (st.reverse.flatMap ptC)) (hB : B ≤ w.heap.size) (hn2 : n ≤ 1000) (hs : ∀ p ∈ st, PtS p) (hb : ItB x) (hh : x.how = 7) :
    Calls Tryz.prog 43 #[v, itX x A c] w (stR st x w B) := by
  by_cases h0 : 0 < x.ns.length
  · exact step5_ns7 x A c w B st v hB hh h0 hb.len
  have h0 : x.ns.length = 0 := by omega
  by_cases h1 : x.nm = []
  case neg => exact step5_nm7 x A c w B st v hB hh h0 h1
  have htw : (x.how != 3) = true := by rw [hh]; rfl
  cases st with
  | nil =>
    obtain rfl : n = 0 := hn.symm
    obtain ⟨A0, c0, rfl, _⟩ := row_shape h
    exact step5_nil7 x A c w B A0 c0 hB hh h0 h1
  | cons p r =>
    cases r with
    | nil =>
      obtain rfl : n = 1 := hn.symm
      obtain ⟨A0, c0, rfl, _⟩ := row_shape h
      exact step5_one7 x A c w B p A0 c0 hB hh h0 h1
    | cons q r =>
      obtain ⟨m, rfl⟩ : ∃ m, n = m + 2 := ⟨r.length, by rw [← hn]; rfl⟩
      have hr : r.length = m := by simp only [List.length_cons] at hn; omega
      obtain ⟨g, c0, rfl, hc0, hg, ⟨p0, p1, p2, p3⟩, q0, q1, q2, q3⟩ := last_cells2 hr h
      obtain ⟨hp1, hp2, hp3⟩ := hs p (List.mem_cons_self ..)
      obtain ⟨hq1, hq2, hq3⟩ := hs q (List.mem_cons_of_mem _ (List.mem_cons_self ..))
      by_cases hv : verbW x.fn true = []
      · exact step5_vb7 x A c w B (p :: q :: r) g (m + 1) c0 p hB hg (by omega) (by omega) hc0 hh h0 h1 hv q0 q1 q2 q3
      by_cases ht : tk2 x.fn = true
      case neg => exact step5_tk7 x A c w B (p :: q :: r) g (m + 1) c0 p hB hg (by omega) (by omega) hc0 hh h0 h1 hv (by simpa using ht) q0 q1 q2 q3
      have hok : okI x = true := ok5_yes (by omega) (by omega) h0 h1 (by rw [htw]; exact hv) (.inr (.inr ht))
      have hst := step5_dy (p := q) (q := p) (r := r) hok (by omega)
      rw [List.reverse_cons, List.reverse_cons, List.append_assoc] at h
      refine (step5_ok7 x A c w B r g m c0 q p (verbW x.fn true) hB hg (by omega) hc0 hh h0 h1 hv (verbW_le _ _) hq1 hq2 hq3 hp1 hp2 hp3 hr h (fun W => verb5_any x.fn true W) (fun W => by have := rtk_any x.fn W; rw [ht] at this; exact this) p0 p1 p2 p3 q0 q1 q2 q3).mono fun e w' hh2 => OkR.st hh2 hr ?_
      rw [hst]
      unfold dyP
      rw [htw, hh]
      simp [markW]
theorem step5_any (x : It) (A : Option Addr) (c : Nat) (w : World) (B : Nat) (st : List Pt) (v : Value) (n : Nat) (hn : st.length = n) (h : w.ownsRow B 92 4 v n (st.reverse.flatMap ptC)) (hB : B ≤ w.heap.size) (hn2 : n ≤ 1000) (hs : ∀ p ∈ st, PtS p) (hb : ItB x) (hr : NumU w A x.ns) :
    Calls Tryz.prog 43 #[v, itX x A c] w (stR st x w B) := by
  by_cases h1 : x.how = 1 ∨ x.how = 2
  · exact step5_opd x A c w B st v n hn h hB hn2 hb hr h1
  by_cases h3 : x.how < 3
  · exact step5_lo x A c w B st v hB h3 (by omega) (by omega)
  by_cases h7 : 7 < x.how
  · exact step5_hi x A c w B st v hB h7
  have : x.how = 3 ∨ x.how = 4 ∨ x.how = 5 ∨ x.how = 6 ∨ x.how = 7 := by omega
  rcases this with e | e | e | e | e
  · exact step5_how3 x A c w B st v n hn h hB hn2 hs hb e
  · exact step5_how4 x A c w B st v n hn h hB hn2 hs hb e
  · exact step5_how5 x A c w B st v n hn h hB hn2 hs hb e
  · exact step5_how6 x A c w B st v n hn h hB hn2 hs hb e
  · exact step5_how7 x A c w B st v n hn h hB hn2 hs hb e
end Go.Proofs.YtbapgdhcbfpdoaaGreatDoor
/- The document's expressions as texts. -/
namespace Go.Proofs.YtbapgdhcbfpdoaaGreatDoor
open Go.RowKit
set_option linter.unusedVariables false
set_option linter.unusedSimpArgs false
set_option maxRecDepth 100000
theorem opd_ne0 (x : It) : (opdP x).ne = 0 := by
  unfold opdP
  split
  · rfl
  split
  · split <;> rfl
  · split <;> rfl
theorem step_ne {st st' : List Pt} {x : It} {N : Nat} (h : stepP st x = some st') (hb : ∀ p ∈ st, p.ne ≤ N) : ∀ p ∈ st', p.ne ≤ N + 1 := by
  unfold stepP at h
  split at h
  · split at h
    · injection h with h
      subst h
      intro p hp
      rcases List.mem_cons.1 hp with rfl | hp
      · rw [opd_ne0]; omega
      · have := hb p hp; omega
    · cases h
  split at h
  · cases h
  split at h
  · split at h
    · rename_i q p r
      injection h with h
      subst h
      intro y hy
      rcases List.mem_cons.1 hy with rfl | hy
      · have h1 := hb q (List.mem_cons_self ..)
        have h2 := hb p (List.mem_cons_of_mem _ (List.mem_cons_self ..))
        have h3 : (brkP p).ne ≤ N + 1 := by
          unfold brkP
          split
          · omega
          · show p.ne + 1 ≤ N + 1; omega
        show max (brkP p).ne q.ne ≤ N + 1
        omega
      · have := hb y (List.mem_cons_of_mem _ (List.mem_cons_of_mem _ hy)); omega
    · cases h
  · split at h
    · rename_i p r
      injection h with h
      subst h
      intro y hy
      rcases List.mem_cons.1 hy with rfl | hy
      · have h1 := hb p (List.mem_cons_self ..)
        show p.ne ≤ N + 1
        omega
      · have := hb y (List.mem_cons_of_mem _ hy); omega
    · cases h
theorem step_len5 {st st' : List Pt} {x : It} (h : stepP st x = some st') : st'.length ≤ st.length + 1 := by
  unfold stepP at h
  split at h
  · split at h
    · injection h with h; subst h; simp
    · cases h
  split at h
  · cases h
  split at h
  · split at h
    · injection h with h; subst h; simp only [List.length_cons]; omega
    · cases h
  · split at h
    · injection h with h; subst h; simp
    · cases h
structure EI5 (w wr : World) (l : List It) (j : Nat) (v : Value) (st : List Pt) : Prop where
  run : runP (l.take j) [] = some st
  own : wr.ownsRow w.heap.size 92 4 v st.length (st.reverse.flatMap ptC)
  bel : Below w.heap.size w wr
  bnd : ptB st
  sum : sumK st ≤ 256 * j
  ne : ∀ p ∈ st, p.ne ≤ j
  len : st.length ≤ j
theorem tk_le {st : List Pt} {p : Pt} (h : p ∈ st) : p.tk ≤ sumK st := by
  induction st with
  | nil => cases h
  | cons q r ih =>
    rcases List.mem_cons.1 h with rfl | h
    · simp only [sumK]; omega
    · have := ih h
      simp only [sumK]; omega
theorem EI5.pts {w wr : World} {l : List It} {j : Nat} {v : Value} {st : List Pt} (h : EI5 w wr l j v st) (hj : j ≤ 256) : ∀ p ∈ st, PtS p := fun p hp => by
  have h1 := h.bnd p hp
  have h2 := tk_le hp
  have h3 := h.sum
  have h4 := h.ne p hp
  unfold PtS
  omega
theorem EI5.start (w : World) (l : List It) : EI5 w w l 0 (.slice none 0 0) [] := ⟨rfl, World.ownsRow_nil _ _ _ _, Below.refl _ _, fun p hp => (by cases hp), Nat.zero_le _, fun p hp => (by cases hp), Nat.le_refl _⟩
theorem take_one {l : List It} {j : Nat} (h : j < l.length) : l.take (j + 1) = l.take j ++ [l.getD j default] := by
  rw [List.take_add_one, List.getElem?_eq_getElem h, List.getD_eq_getElem?_getD, List.getElem?_eq_getElem h]; rfl
theorem EI5.step {w wr wr' : World} {l : List It} {j : Nat} {v v' : Value} {st st' : List Pt} (h : EI5 w wr l j v st) (hj : j < l.length) (hr : ∀ n ∈ (l.getD j default).ns, rng n) (hs : stepP st (l.getD j default) = some st') (hb : Below w.heap.size wr wr') (ho : wr'.ownsRow w.heap.size 92 4 v' st'.length (st'.reverse.flatMap ptC)) : EI5 w wr' l (j + 1) v' st' where
  run := by rw [take_one hj, runP_app, h.run]; show (stepP st (l.getD j default)).bind (runP []) = _; rw [hs]; rfl
  own := ho
  bel := h.bel.trans hb
  bnd := step_bnd hs h.bnd hr
  sum := by have := step_sum hs; have := h.sum; omega
  ne := step_ne hs h.ne
  len := by have := step_len5 hs; have := h.len; omega
theorem run_no {l : List It} {j : Nat} {st : List Pt} (h : runP (l.take j) [] = some st) (hj : j < l.length) (hs : stepP st (l.getD j default) = none) : runP l [] = none := by
  have e : l = l.take j ++ (l.getD j default :: l.drop (j + 1)) := (List.take_append_drop (j + 1) l).symm.trans (by rw [take_one hj, List.append_assoc]; rfl)
  rw [e, runP_app, h]
  show (stepP st (l.getD j default)).bind _ = none
  rw [hs]; rfl
def TxE (w : World) (a : Option (List UInt8)) (e : Ending) (w' : World) : Prop := e = .returned (.tuple #[.string (bs (a.getD [])), .bool a.isSome]) ∧ Below w.heap.size w w'
theorem exp_long {l : List It} {k : Nat} (h : 256 < l.length) : exprP l k = none := by unfold exprP; rw [if_pos h]
theorem exp_none {l : List It} {k : Nat} (h : runP l [] = none) : exprP l k = none := by unfold exprP; rw [h]; split <;> rfl
theorem exp_one {l : List It} {k : Nat} {p : Pt} (hl : l.length ≤ 256) (h : runP l [] = some [p]) : exprP l k = if 256 < p.tk + k ∨ 32 < p.ne then none else some p.s := by unfold exprP; rw [h, if_neg (by omega)]
theorem exp_many {l : List It} {k : Nat} {st : List Pt} (h : runP l [] = some st) (hn : st.length ≠ 1) : exprP l k = none := by
  unfold exprP
  rw [h]
  split
  · rfl
  · match st, hn with
    | [], _ => rfl
    | [p], hn => exact absurd rfl hn
    | p :: q :: r, _ => rfl
theorem expr5_long (l : List It) (k n : Nat) (A : Option Addr) (c : Nat) (w : World) (hn : l.length = n) (hl : n ≤ 9223372036854775807) (h : 256 < n) : Calls Tryz.prog 29 #[.slice A n c, .int .i64 k] w (TxE w (exprP l k)) := by
  rw [exp_long (by omega)]
  clear hn
  go_enter Tryz.func29, Tryz.ntmps29
  go_wp2
  exact bodyPost_ret (v := .tuple #[.string ⟨#[]⟩, .bool false]) (R := TxE w none) (by simp [results, Tryz.results29, go_sem]) rfl ⟨rfl, Below.refl _ _⟩
set_option maxHeartbeats 3200000 in
theorem expr5_any (l : List It) (k n : Nat) (A : Option Addr) (c : Nat) (w : World) (hk : k ≤ 2) (hn : l.length = n) (hl : n ≤ 9223372036854775807) (hi : ItsU w A l) (hb : ∀ x ∈ l, ItB x) : Calls Tryz.prog 29 #[.slice A n c, .int .i64 k] w (TxE w (exprP l k)) := by
  by_cases h : 256 < n
  · exact expr5_long l k n A c w hn hl h
  have hl : n ≤ 256 := by omega
  obtain ⟨a, ha⟩ : ∃ a, a = exprP l k := ⟨_, rfl⟩
  rw [← ha]
  have HA := Lib.hid ha
  have HN := Lib.hid (And.intro hn (And.intro hi hb))
  clear h hn hi hb ha
  go_enter Tryz.func29, Tryz.ntmps29
  go_wp2
  go_loopw [7, 6] (fun i s6 wr => ∃ (j : Nat) (st : List Pt), j ≤ n ∧ i = .int .i64 j ∧ Hid (EI5 w wr l j s6 st)) (fun i _ _ => n - (intOf i).toNat)
  case atStart => exact ⟨0, [], by omega, rfl, Lib.hid (EI5.start w l)⟩
  case round =>
    obtain ⟨j, st, hj, rfl, HE⟩ := hrel
    rename_i s6 wr
    obtain ⟨A6, c6, rfl, hc6⟩ := row_shape HE.out.own
    by_cases hlt : j < n
    · obtain ⟨x, hx⟩ : ∃ x, x = l.getD j default := ⟨_, rfl⟩
      have hjl : j < l.length := by rw [HN.out.1]; exact hlt
      have hxm : x ∈ l := by rw [hx, List.getD_eq_getElem?_getD, List.getElem?_eq_getElem hjl]; exact List.getElem_mem hjl
      obtain ⟨b, o, rfl, hbl, hcs⟩ := HN.out.2.1 (by omega)
      obtain ⟨a0, a1, a2, a3, A1, c1, a4, _, a5⟩ := hcs j hjl
      rw [← hx] at a0 a1 a2 a3 a4 a5
      have u0 := (cell_below HE.out.bel hbl _).trans a0
      have u1 := (cell_below HE.out.bel hbl _).trans a1
      have u2 := (cell_below HE.out.bel hbl _).trans a2
      have u3 := (cell_below HE.out.bel hbl _).trans a3
      have u4 := (cell_below HE.out.bel hbl _).trans a4
      have q1 := idxIt b o n c j hlt
      have hst := step5_any x A1 c1 wr w.heap.size st (.slice A6 st.length c6) st.length rfl HE.out.own HE.out.bel.size (by have := HE.out.len; omega) (HE.out.pts (by omega)) (HN.out.2.2 x hxm) (a5.below HE.out.bel)
      unfold itX itW at hst
      have HST := Lib.hid hst
      have HX := Lib.hid (And.intro hx (And.intro hjl (HN.out.2.2 x hxm).ns))
      clear hx hxm hjl hcs a0 a1 a2 a3 a4 a5 hst
      go_wp2_with fail
      refine HST.out.mono ?_
      rintro e w2 ⟨hb2, hres⟩
      clear u0 u1 u2 u3 u4
      cases hs : stepP st x with
      | none =>
        rw [hs] at hres
        obtain ⟨v, rfl⟩ := hres
        have hno : a = none := by rw [HA.out]; exact exp_none (run_no HE.out.run HX.out.2.1 (by rw [← HX.out.1]; exact hs))
        have HB2 := Lib.hid (HE.out.bel.trans hb2)
        clear hb2 hs
        subst hno
        go_wp2
        exact bodyPost_ret (v := .tuple #[.string ⟨#[]⟩, .bool false]) (R := TxE w none) (by simp [results, Tryz.results29, go_sem]) rfl ⟨rfl, HB2.out⟩
      | some st2 =>
        rw [hs] at hres
        obtain ⟨A2, c2, rfl, ho⟩ := hres
        have HE2 := Lib.hid (HE.out.step HX.out.2.1 (by rw [← HX.out.1]; exact HX.out.2.2) (by rw [← HX.out.1]; exact hs) hb2 ho)
        clear hb2 hs ho
        go_wp2
        go_roundw
        case rel => exact ⟨j + 1, st2, by omega, by go_num, HE2⟩
        case measure => simp [intOf]; omega
    · obtain rfl : j = n := by omega
      have hrun := HE.out.run
      rw [List.take_of_length_le (by have := HN.out.1; omega)] at hrun
      have HB2 := Lib.hid HE.out.bel
      by_cases h1 : st.length = 1
      · obtain ⟨p, rfl⟩ : ∃ p, st = [p] := by
          match st, h1 with
          | [p], _ => exact ⟨p, rfl⟩
        obtain ⟨g, c0, e, hc0, hg, p0, p1, p2, p3⟩ := last_cells (m := 0) rfl HE.out.own
        injection e with e1 e2 e3
        subst e1 e3
        obtain ⟨hp1, hp2, hp3⟩ := HE.out.pts (by omega) p (List.mem_cons_self ..)
        rw [Nat.zero_mul] at p0 p1 p2 p3
        rw [Nat.zero_add] at p1 p2 p3
        have hex := HA.out
        rw [exp_one (by rw [HN.out.1]; omega) hrun] at hex
        have HX := Lib.hid hex
        have hln : [p].length = 1 := rfl
        clear hex hrun
        by_cases ht : 256 < p.tk + k
        · have hno : a = none := by rw [HX.out, if_pos (.inl ht)]
          subst hno
          go_wp2
          exact bodyPost_ret (v := .tuple #[.string ⟨#[]⟩, .bool false]) (R := TxE w none) (by simp [results, Tryz.results29, go_sem]) rfl ⟨rfl, HB2.out⟩
        · by_cases ht2 : 32 < p.ne
          · have hno : a = none := by rw [HX.out, if_pos (.inr ht2)]
            subst hno
            go_wp2
            exact bodyPost_ret (v := .tuple #[.string ⟨#[]⟩, .bool false]) (R := TxE w none) (by simp [results, Tryz.results29, go_sem]) rfl ⟨rfl, HB2.out⟩
          · have hno : a = some p.s := by rw [HX.out, if_neg (by omega)]
            subst hno
            go_wp2
            exact bodyPost_ret (v := .tuple #[.string (bs p.s), .bool true]) (R := TxE w (some p.s)) (by simp [results, Tryz.results29, go_sem]) rfl ⟨rfl, HB2.out⟩
      · have hno : a = none := by rw [HA.out]; exact exp_many hrun h1
        obtain ⟨m6, hm6⟩ : ∃ m6, m6 = st.length := ⟨_, rfl⟩
        have hm7 := HE.out.len
        rw [← hm6] at h1 hm7 ⊢
        have t0 : ((m6 : Int) != 1) = true := by rw [bne_iff_ne]; omega
        clear hm6 hrun hc6
        subst hno
        go_wp2
        exact bodyPost_ret (v := .tuple #[.string ⟨#[]⟩, .bool false]) (R := TxE w none) (by simp [results, Tryz.results29, go_sem]) rfl ⟨rfl, HB2.out⟩
end Go.Proofs.YtbapgdhcbfpdoaaGreatDoor
/- The document's inputs as texts. -/
namespace Go.Proofs.YtbapgdhcbfpdoaaGreatDoor
open Go.RowKit
set_option linter.unusedVariables false
set_option linter.unusedSimpArgs false
set_option maxRecDepth 100000
abbrev inC5 (m : Inp) (A : Option Addr) (n c : Nat) : Obj := .cells #[.string (bs m.nm), .int .i64 m.pl, .slice A n c] 48
set_option maxHeartbeats 1600000 in
theorem in5_bad (w : World) (m : Inp) (n : Nat) (A : Option Addr) (c : Nat) (hnm : nameB m.nm = false) (hb : m.nm.length ≤ 140737488355320) : Calls Tryz.prog 28 #[.agg #[.string (bs m.nm), .int .i64 m.pl, .slice A n c]] w (TxE w none) := by
  have hW : Below w.heap.size w (w.alloc (inC5 m A n c)) := (Below.refl _ _).alloc (Nat.le_refl _) _
  have hname := rname_any m.nm (w.alloc (inC5 m A n c)) hb
  rw [hnm] at hname
  have HM := Lib.hid hname
  have HW := Lib.hid hW
  clear hnm hb hname hW
  go_enter Tryz.func28, Tryz.ntmps28
  go_wp2_with fail
  refine HM.out.mono ?_
  rintro e w1 ⟨rfl, b1⟩
  have B1 := Lib.hid (HW.out.trans (b1.mono HW.out.size))
  clear b1
  go_wp2
  exact bodyPost_ret (v := .tuple #[.string ⟨#[]⟩, .bool false]) (R := TxE w none) (by simp [results, Tryz.results28, go_sem]) rfl ⟨rfl, B1.out⟩
set_option maxHeartbeats 1600000 in
theorem in5_many (w : World) (m : Inp) (n : Nat) (A : Option Addr) (c : Nat) (hnm : nameB m.nm = true) (hn : 4 < n) (hn2 : n ≤ 9223372036854775807) : Calls Tryz.prog 28 #[.agg #[.string (bs m.nm), .int .i64 m.pl, .slice A n c]] w (TxE w none) := by
  have hW : Below w.heap.size w (w.alloc (inC5 m A n c)) := (Below.refl _ _).alloc (Nat.le_refl _) _
  have hname := rname_any m.nm (w.alloc (inC5 m A n c)) (by have := nameB_le hnm; omega)
  rw [hnm] at hname
  have HM := Lib.hid hname
  have HW := Lib.hid hW
  clear hnm hname hW
  go_enter Tryz.func28, Tryz.ntmps28
  go_wp2_with fail
  refine HM.out.mono ?_
  rintro e w1 ⟨rfl, b1⟩
  have k1 : w1.heap[w.heap.size]? = some (inC5 m A n c) := (b1.block _ (by simp)).trans (heap_alloc_new w _)
  have k2 : w1.cell? ⟨w.heap.size, 2, none⟩ = some (.slice A n c) := by rw [cell_of_row _ _ _ _ _ _ k1]; rfl
  have B1 := Lib.hid (HW.out.trans (b1.mono HW.out.size))
  clear b1 k1
  go_wp2
  exact bodyPost_ret (v := .tuple #[.string ⟨#[]⟩, .bool false]) (R := TxE w none) (by simp [results, Tryz.results28, go_sem]) rfl ⟨rfl, B1.out⟩
set_option maxHeartbeats 6400000 in
theorem in5_ok (w : World) (m : Inp) (n : Nat) (A : Option Addr) (c : Nat) (hnm : nameB m.nm = true) (hl : m.sd.length = n) (hn : n ≤ 4) (h : SdU w A m.sd) (hb : InB m) : Calls Tryz.prog 28 #[.agg #[.string (bs m.nm), .int .i64 m.pl, .slice A n c]] w (TxE w ((sidesP m.sd).map fun t => [105, 110, 32] ++ m.nm ++ t)) := by
  have hW : Below w.heap.size w (w.alloc (inC5 m A n c)) := (Below.refl _ _).alloc (Nat.le_refl _) _
  have hname := rname_any m.nm (w.alloc (inC5 m A n c)) (by have := nameB_le hnm; omega)
  rw [hnm] at hname
  have HM := Lib.hid hname
  have HW := Lib.hid hW
  have HB := Lib.hid (And.intro hl hb)
  have HI := Lib.hid h
  have hz : (bs m.nm).size ≤ 16 := by rw [bs_size]; exact nameB_le hnm
  have hnl := nameB_le hnm
  have hd : decide ((4 : Int) < (n : Int)) = false := decide_eq_false (by omega)
  obtain ⟨T, hT⟩ : ∃ T, T = (sidesP m.sd).map fun t => [105, 110, 32] ++ m.nm ++ t := ⟨_, rfl⟩
  rw [← hT]
  have HT := Lib.hid hT
  clear hnm hname hW hl hb h hT
  go_enter Tryz.func28, Tryz.ntmps28
  go_wp2_with fail
  refine HM.out.mono ?_
  rintro e w1 ⟨rfl, b1⟩
  have k1 : w1.heap[w.heap.size]? = some (inC5 m A n c) := (b1.block _ (by simp)).trans (heap_alloc_new w _)
  have k0 : w1.cell? ⟨w.heap.size, 0, none⟩ = some (.string (bs m.nm)) := by rw [cell_of_row _ _ _ _ _ _ k1]; rfl
  have k2 : w1.cell? ⟨w.heap.size, 2, none⟩ = some (.slice A n c) := by rw [cell_of_row _ _ _ _ _ _ k1]; rfl
  have hwl : w.heap.size < w1.heap.size := heap_lt k1
  have HK2 := Lib.hid k2
  have B1 := Lib.hid (HW.out.trans (b1.mono HW.out.size))
  clear b1 k1
  go_wp2_with fail
  clear k0 k2
  go_loopw [5, 4] (fun i s wr => ∃ (j : Nat) (acc S : List UInt8), j ≤ n ∧ i = .int .i64 j ∧ s = .string (bs S) ∧ S.length ≤ 19 + 22 * j ∧ Hid (S = [105, 110, 32] ++ m.nm ++ acc) ∧ Hid (sidesP (m.sd.take j) = some acc ∧ Below w1.heap.size w1 wr)) (fun i _ _ => n - (intOf i).toNat)
  case atStart => exact ⟨0, [], [105, 110, 32] ++ m.nm, by omega, rfl, by rw [show (⟨#[105, 110, 32]⟩ : ByteArray) = bs [105, 110, 32] from rfl, cat_bs], by simp only [List.length_append, List.length_cons, List.length_nil]; omega, Lib.hid (List.append_nil _).symm, Lib.hid ⟨rfl, Below.refl _ _⟩⟩
  case round =>
    obtain ⟨j, acc, S, hj, rfl, rfl, hacc, HSS, HR⟩ := hrel
    have hza : (bs S).size ≤ 200 := by rw [bs_size]; omega
    have y2 := (cell_below HR.out.2 hwl 2).trans HK2.out
    have HBR := Lib.hid (B1.out.trans (HR.out.2.mono B1.out.size))
    by_cases hlt : j < n
    · obtain ⟨x, hx⟩ : ∃ x, x = m.sd.getD j default := ⟨_, rfl⟩
      have hjl : j < m.sd.length := by rw [HB.out.1]; exact hlt
      have hxb : x.1.length ≤ 140737488355320 ∧ rng x.2 := by
        rw [hx, List.getD_eq_getElem?_getD, List.getElem?_eq_getElem hjl]; exact HB.out.2.sd _ (List.getElem_mem hjl)
      obtain ⟨b, o, rfl, lb, hi⟩ := HI.out (by omega)
      obtain ⟨a0, a1⟩ := hi j hjl
      rw [← hx] at a0 a1
      have u0 : wr.cell? ⟨b, o + j * 2, none⟩ = some (.string (bs x.1)) := (cell_below HBR.out lb _).trans a0
      have u1 : wr.cell? ⟨b, o + j * 2 + 1, none⟩ = some (.int .i64 x.2) := (cell_below HBR.out lb _).trans a1
      have q1 := idxSd0 b o n c j hlt
      have HXX := Lib.hid (And.intro hx (And.intro hjl hxb))
      have hbr := HR.out.2.size
      have hbx := below_drewN (k := 0) ((Below.refl w1.heap.size wr).alloc hbr (.cells #[.string (bs x.1), .int .i64 x.2] 50)) (Nat.le_trans hbr (by simp))
      have HBX := Lib.hid (HR.out.2.trans ((Below.refl w1.heap.size wr).alloc hbr (.cells #[.string (bs x.1), .int .i64 x.2] 50)))
      have hzx : (bs x.1).size = x.1.length := bs_size _
      clear a0 a1 hi hx hjl hbx
      by_cases h1 : x.1 = []
      · have c1 : ((bs x.1).toList == []) = true := cmpYes h1
        have hsp : sideP x = some (digs x.2) := by unfold sideP; rw [if_pos h1]
        have hdl := digs_len hxb.2.1 hxb.2.2
        have hz2 : (bs (digs x.2)).size ≤ 21 := by rw [bs_size]; exact hdl
        have HN := Lib.hid (sides_go HXX.out.2.1 HR.out.1 (by rw [← HXX.out.1]; exact hsp))
        have hx0 : x.1.length = 0 := by rw [h1]; rfl
        have HBX2 := HBX
        clear hsp hxb h1
        go_wp2_with fail
        refine (number5_any x.2 _ HXX.out.2.2.2).mono ?_
        rintro e w2 ⟨rfl, b2⟩
        have B2 := Lib.hid (HBX.out.trans (b2.mono (Nat.le_trans hbr (by simp))))
        clear b2 u0 u1 q1 y2
        go_wp2
        go_roundw
        case rel =>
          refine ⟨j + 1, acc ++ 32 :: digs x.2, S ++ 32 :: digs x.2, by omega, by go_num, ?_, by simp only [List.length_append, List.length_cons]; omega, ?_, Lib.hid ⟨HN.out, B2.out⟩⟩
          · rw [show (⟨#[32]⟩ : ByteArray) = bs [32] from rfl, cat_bs, cat_bs, List.append_assoc]; rfl
          · exact Lib.hid (by rw [HSS.out, List.append_assoc])
        case measure => simp [intOf]; omega
      · have c1 : ((bs x.1).toList == []) = false := cmpNo h1
        by_cases h2 : x.2 = 0
        · have t2 : (x.2 == 0) = true := by simpa using h2
          cases hnb : nameB x.1 with
          | true =>
            have hsp : sideP x = some x.1 := by unfold sideP; rw [if_neg h1, if_pos ⟨h2, hnb⟩]
            have HN := Lib.hid (sides_go HXX.out.2.1 HR.out.1 (by rw [← HXX.out.1]; exact hsp))
            have hx16 := nameB_le hnb
            have HRN := Lib.hid (show ∀ W, Calls Tryz.prog 30 #[.string (bs x.1)] W fun e w' => e = .returned (.bool true) ∧ Below W.heap.size W w' from fun W => by have := rname_any x.1 W hxb.1; rw [hnb] at this; exact this)
            clear hsp hxb h1 hnb h2
            go_wp2_with fail
            refine (HRN.out _).mono ?_
            rintro e w2 ⟨rfl, b2⟩
            have k6 : w2.heap[wr.heap.size]? = some (.cells #[.string (bs x.1), .int .i64 x.2] 50 (0, 0)) := (b2.block _ (by simp)).trans (heap_alloc_new wr _)
            have k60 : w2.cell? ⟨wr.heap.size, 0, none⟩ = some (.string (bs x.1)) := by rw [cell_of_row _ _ _ _ _ _ k6]; rfl
            have B2 := Lib.hid (HBX.out.trans (b2.mono (Nat.le_trans hbr (by simp))))
            clear b2 u0 u1 q1 y2 k6
            go_wp2
            go_roundw
            case rel =>
              refine ⟨j + 1, acc ++ 32 :: x.1, S ++ 32 :: x.1, by omega, by go_num, ?_, by simp only [List.length_append, List.length_cons]; omega, ?_, Lib.hid ⟨HN.out, B2.out⟩⟩
              · rw [show (⟨#[32]⟩ : ByteArray) = bs [32] from rfl, cat_bs, cat_bs, List.append_assoc]; rfl
              · exact Lib.hid (by rw [HSS.out, List.append_assoc])
            case measure => simp [intOf]; omega
          | false =>
            have hsp : sideP x = none := by unfold sideP; rw [if_neg h1, if_neg (fun h => by rw [hnb] at h; cases h.2)]
            have HRN := Lib.hid (show ∀ W, Calls Tryz.prog 30 #[.string (bs x.1)] W fun e w' => e = .returned (.bool false) ∧ Below W.heap.size W w' from fun W => by have := rname_any x.1 W hxb.1; rw [hnb] at this; exact this)
            have hno : T = none := by rw [HT.out, sides_stop HXX.out.2.1 (by rw [← HXX.out.1]; exact hsp)]; rfl
            subst hno
            clear hsp hxb h1 hnb h2
            go_wp2_with fail
            refine (HRN.out _).mono ?_
            rintro e w2 ⟨rfl, b2⟩
            have B2 := Lib.hid (B1.out.trans ((HBX.out.trans (b2.mono (Nat.le_trans hbr (by simp)))).mono B1.out.size))
            clear b2 u0 u1 q1 y2
            go_wp2
            exact bodyPost_ret (v := .tuple #[.string ⟨#[]⟩, .bool false]) (R := TxE w none) (by simp [results, Tryz.results28, go_sem]) rfl ⟨rfl, B2.out⟩
        · have t2 : (x.2 == 0) = false := by simpa using h2
          have hsp : sideP x = none := by unfold sideP; rw [if_neg h1, if_neg (fun h => h2 h.1)]
          have hno : T = none := by rw [HT.out, sides_stop HXX.out.2.1 (by rw [← HXX.out.1]; exact hsp)]; rfl
          subst hno
          have B2 := Lib.hid (B1.out.trans (HBX.out.mono B1.out.size))
          clear hsp hxb h1 h2
          go_wp2
          exact bodyPost_ret (v := .tuple #[.string ⟨#[]⟩, .bool false]) (R := TxE w none) (by simp [results, Tryz.results28, go_sem]) rfl ⟨rfl, B2.out⟩
    · obtain rfl : j = n := by omega
      have hrun := HR.out.1
      rw [List.take_of_length_le (by rw [HB.out.1]; exact Nat.le_refl _)] at hrun
      have hsome : T = some S := by rw [HT.out, hrun, HSS.out]; rfl
      subst hsome
      clear hrun
      go_wp2
      exact bodyPost_ret (v := .tuple #[.string (bs S), .bool true]) (R := TxE w (some S)) (by simp [results, Tryz.results28, go_sem]) rfl ⟨rfl, HBR.out⟩
theorem input5_any (w : World) (m : Inp) (n : Nat) (A : Option Addr) (c : Nat) (hl : m.sd.length = n) (h : SdU w A m.sd) (hb : InB m) : Calls Tryz.prog 28 #[.agg #[.string (bs m.nm), .int .i64 m.pl, .slice A n c]] w (TxE w (inputP m)) := by
  unfold inputP
  by_cases h1 : nameB m.nm = false
  · rw [if_pos (.inl h1)]; exact in5_bad w m n A c h1 hb.nm
  have h1 : nameB m.nm = true := by simpa using h1
  by_cases h2 : 4 < n
  · rw [if_pos (.inr (by rw [hl]; exact h2))]; exact in5_many w m n A c h1 h2 (by rw [← hl]; exact hb.len)
  · rw [if_neg (fun h => h.elim (fun h => by rw [h1] at h; cases h) (fun h => h2 (by rw [← hl]; exact h)))]
    exact in5_ok w m n A c h1 hl (by omega) h hb
end Go.Proofs.YtbapgdhcbfpdoaaGreatDoor
