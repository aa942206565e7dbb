/- Contracts of package lex: spelling, Spell. -/
import Derived.Test.YtphcjpomneejmaaDoorLexT
namespace Go.Proofs.YtphcjpomneejmaaDoor
open Go.RowKit

/-- A token that fits its type. -/
def TkOk (t : Tk) : Prop := (-9223372036854775808 ≤ t.n ∧ t.n ≤ 9223372036854775807) ∧ t.w.length ≤ 140737488355320
theorem txt_len {t : Tk} (h : TkOk t) : (txt t).length ≤ 140737488355320 := by
  unfold txt
  split
  · have := digs_len h.1.1 h.1.2; omega
  · split
    · simp
    · exact h.2
theorem dash_no {u : Nat} : (Lib.decDigits u).head? ≠ some 45 := by
  intro h
  cases hd : Lib.decDigits u with
  | nil => exact dec_ne u hd
  | cons c r =>
    rw [hd] at h
    simp at h
    subst h
    have := dec_dig u 45 (by rw [hd]; simp)
    revert this; decide
set_option maxHeartbeats 1000000 in
theorem spelling_any (t : Tk) (w : World) (hL : Laid w) (hok : TkOk t) : Calls Tryd.prog 25 #[.agg #[.int .i64 t.k, .int .i64 t.a, .string (bs t.w), .int .i64 t.n]] w fun e w' => e = .returned (.string (bs (txt t))) ∧ Below w.heap.size w w' := by
  have h0 := hok.1.1
  have h1 := hok.1.2
  by_cases k2 : t.k = 2
  · have hx := Lib.hid (show txt t = digs t.n by unfold txt; rw [if_pos k2])
    have hk : (t.k == 2) = true := by simp [k2]
    clear k2
    by_cases hneg : t.n < 0
    · obtain ⟨m, hm⟩ : ∃ m : Nat, t.n = -(m : Int) := ⟨t.n.natAbs, by omega⟩
      have hx2 := Lib.hid (show digs t.n = 95 :: Lib.decDigits m by unfold digs; rw [if_pos hneg]; congr 2; omega)
      have hit := Lib.hid (show Lib.itoa t.n = 45 :: Lib.decDigits m by unfold Lib.itoa; rw [if_pos hneg]; congr 2; omega)
      have hdl : (bs (Lib.decDigits m)).size ≤ 20 := by rw [bs_size]; exact dec_len (by omega)
      have h95 : ∀ x, (⟨#[95]⟩ : ByteArray) ++ bs x = bs (95 :: x) := fun x => bs_eq (by rw [app_list, bs_list]; rfl)
      have hcut := fun W => cut_yes (⟨(Lib.itoa t.n).toArray⟩ : ByteArray) 45 (Lib.decDigits m) W (by rw [← hit.out])
      have HM := Lib.hid hm
      clear hm hneg
      go_enter Tryd.func25, Tryd.ntmps25
      go_wp2_with (first | (go_at_call 41; refine (Tryd.formatInt t.n h0 h1 _ (hL.below ((Below.refl _ _).alloc (Nat.le_refl _) _)).1).mono ?_; rintro e W ⟨rfl, k, os, hW⟩; have hg := Gr.below ⟨k, os, hW⟩; clear hW) | (go_at_call 31; refine (hcut _).mono ?_; rintro e w' ⟨rfl, rfl⟩))
      go_ret
      exact ⟨ret_str (by rw [hx.out, hx2.out]), ((Below.refl _ _).alloc (Nat.le_refl _) _).trans (hg.mono (by simp))⟩
    · have hx2 := Lib.hid (show digs t.n = Lib.decDigits t.n.natAbs by unfold digs; rw [if_neg hneg])
      have hit := Lib.hid (show Lib.itoa t.n = Lib.decDigits t.n.natAbs by unfold Lib.itoa; rw [if_neg hneg]; congr 1; omega)
      have hcut := fun W => cut_no (⟨(Lib.itoa t.n).toArray⟩ : ByteArray) 45 W (by rw [hit.out]; exact dash_no)
      clear hneg
      go_enter Tryd.func25, Tryd.ntmps25
      go_wp2_with (first | (go_at_call 41; refine (Tryd.formatInt t.n h0 h1 _ (hL.below ((Below.refl _ _).alloc (Nat.le_refl _) _)).1).mono ?_; rintro e W ⟨rfl, k, os, hW⟩; have hg := Gr.below ⟨k, os, hW⟩; clear hW) | (go_at_call 31; refine (hcut _).mono ?_; rintro e w' ⟨rfl, rfl⟩))
      go_ret
      exact ⟨by rw [hx.out, hx2.out, ← hit.out]; rfl, ((Below.refl _ _).alloc (Nat.le_refl _) _).trans (hg.mono (by simp))⟩
  · by_cases k4 : t.k = 4
    · have hx := Lib.hid (show txt t = [10] by unfold txt; rw [if_neg k2, if_pos k4])
      have hk : (t.k == 2) = false := by simp [k2]
      have hk4 : (t.k == 4) = true := by simp [k4]
      clear k2 k4
      go_enter Tryd.func25, Tryd.ntmps25
      go_wp2
      go_ret
      exact ⟨by rw [hx.out]; rfl, (Below.refl _ _).alloc (Nat.le_refl _) _⟩
    · have hx := Lib.hid (show txt t = t.w by unfold txt; rw [if_neg k2, if_neg k4])
      have hk : (t.k == 2) = false := by simp [k2]
      have hk4 : (t.k == 4) = false := by simp [k4]
      clear k2 k4
      go_enter Tryd.func25, Tryd.ntmps25
      go_wp2
      go_ret
      exact ⟨ret_str (by rw [hx.out]), (Below.refl _ _).alloc (Nat.le_refl _) _⟩
open Classical in
/-- What Spell answers. -/
noncomputable def spR (t : Tk) : List UInt8 × Bool := if Sp t then (txt t, true) else ([], false)
theorem sp_yes {t : Tk} (h : Sp t) : spR t = (txt t, true) := by unfold spR; rw [if_pos h]
theorem sp_no {t : Tk} (h : ¬ Sp t) : spR t = ([], false) := by unfold spR; rw [if_neg h]
def SpRes (w : World) (t : Tk) (e : Ending) (w' : World) : Prop := e = .returned (.tuple #[.string (bs (spR t).1), .bool (spR t).2]) ∧ Below w.heap.size w w'
theorem spres_no {w w' : World} {t : Tk} (h : ¬ Sp t) (hb : Below w.heap.size w w') : SpRes w t (.returned (.tuple #[.string ⟨#[]⟩, .bool false])) w' := ⟨by rw [sp_no h]; rfl, hb⟩
theorem spres_yes {w w' : World} {t : Tk} (h : Sp t) (hb : Below w.heap.size w w') : SpRes w t (.returned (.tuple #[.string (bs (txt t)), .bool true])) w' := ⟨by rw [sp_yes h], hb⟩

/-- A token in a block of its own, none of it frozen. -/
def Box (w : World) (b : Nat) (t : Tk) : Prop := Cells4 w b 0 t ∧ (∀ o, o < 4 → w.frozen? ⟨b, o, none⟩ = false) ∧ b < w.heap.size
theorem Box.new (w : World) (t : Tk) : Box (w.alloc (.cells #[.int .i64 t.k, .int .i64 t.a, .string (bs t.w), .int .i64 t.n] 32)) w.heap.size t := by
  refine ⟨Cells4.box w t, fun o ho => ?_, by simp⟩
  match o, ho with
  | 0, _ => go_simp
  | 1, _ => go_simp
  | 2, _ => go_simp
  | 3, _ => go_simp
theorem Box.below {w w' : World} {b : Nat} {t : Tk} (h : Box w b t) (hb : Below w.heap.size w w') : Box w' b t :=
  ⟨h.1.below hb h.2.2, fun o ho => by rw [hb.frozen (p := ⟨b, o, none⟩) h.2.2]; exact h.2.1 o ho, Nat.lt_of_lt_of_le h.2.2 hb.size⟩
theorem Box.zero {w : World} {b : Nat} {t : Tk} (h : Box w b t) : Cells4 (w.setCell ⟨b, 1, none⟩ (.int .i64 0)) b 0 { t with a := 0 } := by
  obtain ⟨⟨h0, h1, h2, h3⟩, _, _⟩ := h
  have e : ∀ o, o ≠ 1 → (w.setCell ⟨b, 1, none⟩ (.int .i64 0)).cell? ⟨b, o, none⟩ = w.cell? ⟨b, o, none⟩ := fun o ho => World.cell?_setCell_other w ⟨b, 1, none⟩ ⟨b, o, none⟩ _ (fun e => ho (by injection e with _ e; exact e.symm))
  refine ⟨?_, ?_, ?_, ?_⟩
  · rw [e _ (by omega)]; exact h0
  · exact World.cell?_setCell_same' _ _ _ (by rw [h1]; rfl)
  · rw [e _ (by omega)]; exact h2
  · rw [e _ (by omega)]; exact h3
end Go.Proofs.YtphcjpomneejmaaDoor
