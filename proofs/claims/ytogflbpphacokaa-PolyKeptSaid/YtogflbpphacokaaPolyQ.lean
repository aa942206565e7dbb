/- Contract: whole: what is left without the factor 0. -/
import Derived.Test.YtogflbpphacokaaPolyP
namespace Go.Proofs.Ytogflbpphacokaa
open Go.RowKit

def wholeR (l : List Mo) : List Mo × Int := if rightB (l.filter nz) = true then (l.filter nz, 0) else ([], 21)
theorem Cells7.below {w w' : World} {b o : Nat} {m : Mo} (h : Cells7 w b o m) {B : Nat} (hb : Below B w w') (hB : b < B) : Cells7 w' b o m := by
  have e : ∀ j, w'.cell? ⟨b, j, none⟩ = w.cell? ⟨b, j, none⟩ := fun j => hb.cell (p := ⟨b, j, none⟩) hB
  unfold Cells7 at *
  simp only [e]
  exact h
theorem Rd.below {w w' : World} {A : Option Addr} {l : List Mo} (h : Rd w w.heap.size A l) (hg : Below w.heap.size w w') : Rd w' w'.heap.size A l :=
  ⟨h.1, fun hl => by
    obtain ⟨b, o, rfl, hb, hc⟩ := h.2 hl
    exact ⟨b, o, rfl, Nat.lt_of_lt_of_le hb hg.size, fun i j hi hj => (hg.cell (p := ⟨b, o + i * 7 + j, none⟩) hb).trans (hc i j hi hj)⟩⟩
theorem take_snoc {l : List Mo} {k : Nat} (hk : k < l.length) : l.take (k + 1) = l.take k ++ [nth l k] := by
  rw [List.take_succ_eq_append_getElem hk]; unfold nth; rw [List.getD_eq_getElem?_getD, List.getElem?_eq_getElem hk]; rfl
theorem filter_yes {l : List Mo} {k : Nat} (hk : k < l.length) (h : ¬ (nth l k).n = 0) : (l.take (k + 1)).filter nz = (l.take k).filter nz ++ [nth l k] := by
  rw [take_snoc hk, List.filter_append, List.filter_cons_of_pos (by simpa [nz] using h)]; rfl
theorem filter_no {l : List Mo} {k : Nat} (hk : k < l.length) (h : (nth l k).n = 0) : (l.take (k + 1)).filter nz = (l.take k).filter nz := by
  rw [take_snoc hk, List.filter_append, List.filter_cons_of_neg (by simpa [nz] using h)]; simp

theorem res_of {w w' : World} {r : List Mo × Int} {l : List Mo} {A : Option Addr} {n c : Nat} {k : Int} (hr : r = (l, k)) (ho : Own w' w.heap.size (.slice A n c) l) (hn : l.length = n) (hb : Below w.heap.size w w') : PolyRes w r (.returned (.tuple #[.slice A n c, .int .i64 k])) w' := by
  subst hr hn; exact ⟨A, c, rfl, ho, hb⟩

set_option maxRecDepth 100000 in
set_option maxHeartbeats 1000000 in
theorem whole_any (A : Option Addr) (l : List Mo) (c : Nat) (w : World) (h : Rd w w.heap.size A l) (hl : l.length ≤ 4096) :
    Calls Try.prog 43 #[.slice A l.length c] w (PolyRes w (wholeR l)) := by
  obtain ⟨i0, hi, hz0, hz1, hz2⟩ := info_parts info44
  have H := Lib.hid h
  have HI := Lib.hid (And.intro hi (And.intro hz0 (And.intro hz1 hz2)))
  clear h hi hz0 hz1 hz2
  go_enter Try.func43, Try.ntmps43
  go_wp2
  go_loopw [4, 5] (fun v i wr => ∃ k : Nat, k ≤ l.length ∧ i = .int .i64 k ∧ Own wr w.heap.size v ((l.take k).filter nz) ∧ Below w.heap.size w wr) (fun _ i _ => l.length - (intOf i).toNat)
  case atStart => exact ⟨0, by omega, rfl, Own.nil _ _, Below.refl _ _⟩
  case round =>
    rename_i v _
    obtain ⟨k, hk, rfl, ho, hb⟩ := hrel
    have HO := Lib.hid ho
    have HB := Lib.hid hb
    clear ho hb
    by_cases hlt : k < l.length
    · obtain ⟨b, o, rfl, hb2, hc⟩ := H.out.at_ k hlt
      have HC := Lib.hid ((hc k hlt).2.below HB.out hb2)
      obtain ⟨n0, n1, n2, n3, n4, n5, n6⟩ := HC.out
      clear hc
      by_cases hn : (nth l k).n = 0
      · have hn0 : ((nth l k).n != 0) = false := by simpa using hn
        have HN := Lib.hid (filter_no hlt hn)
        clear hn
        go_wp2
        go_roundw
        case rel => exact ⟨k + 1, by omega, by go_num, by rw [HN.out]; exact HO.out, HB.out⟩
        case measure => simp [intOf]; omega
      · have hn0 : ((nth l k).n != 0) = true := by simpa using hn
        have HN := Lib.hid (filter_yes hlt hn)
        have hfl : ((l.take k).filter nz).length ≤ 4096 := Nat.le_trans (List.length_filter_le _ _) (by rw [List.length_take]; omega)
        have hsz := HB.out.size
        clear hn
        go_wp2_with (at_builtin; refine wpList_append_own _ rfl (.tmp 18) (.tmp 23) _ rfl w.heap.size 44 i0 _ 7 16 Try.underlying22 HI.out.1 HI.out.2.1 HI.out.2.2.1 HI.out.2.2.2 rfl (by omega) _ ((l.take k).filter nz).length (((l.take k).filter nz).flatMap Mo.cells) rfl (World.ownsRow.alloc HO.out _) ⟨wr.heap.size, 0, none⟩ 1 1 (nth l k).cells rfl rfl (cells_at (Cells7.box wr (nth l k))) (oneCells _) (by unfold maxLen; omega) (by omega) (by simp; omega) ?_; intro v1 w1 hown1 hgr1 _)
        go_roundw
        case rel => exact ⟨k + 1, by omega, by go_num, by rw [HN.out]; exact Own.snoc hown1, (HB.out.alloc hsz _).grown hgr1 (by simp; omega) (fun j hj => (World.ownsRow.lt HO.out j hj).1)⟩
        case measure => simp [intOf]; omega
    · obtain rfl : k = l.length := by omega
      have ho := HO.out
      rw [List.take_length] at ho
      clear HO
      obtain ⟨A1, c1, rfl⟩ := ho.shape
      have HO := Lib.hid ho
      have hfl : (l.filter nz).length ≤ maxLen := Nat.le_trans (List.length_filter_le _ _) (by unfold maxLen; omega)
      have hrd := Lib.hid (ho.rd (fun m hm => H.out.1 m (List.mem_filter.1 hm).1))
      clear ho
      cases hr : rightB (l.filter nz) with
      | false =>
        have hz := Lib.hid (show wholeR l = ([], 21) by simp [wholeR, hr])
        go_wp2_with (go_at_call 16; refine (refright_any A1 (l.filter nz) c1 _ hrd.out hfl).mono ?_; rintro e W ⟨rfl, hg1⟩)
        go_ret2
        exact res_none hz.out (HB.out.trans (hg1.below.mono HB.out.size))
      | true =>
        have hz := Lib.hid (show wholeR l = (l.filter nz, 0) by simp [wholeR, hr])
        go_wp2_with (go_at_call 16; refine (refright_any A1 (l.filter nz) c1 _ hrd.out hfl).mono ?_; rintro e W ⟨rfl, hg1⟩)
        go_ret2
        exact res_of hz.out (HO.out.below hg1.below) rfl (HB.out.trans (hg1.below.mono HB.out.size))


/-! ### what is put together out of two lists -/
def sumR (ms : List Mo) : List Mo × Int := wholeR (accL ms)
theorem polyOf_eq (ms : List Mo) : polyOf ms = wholeR (accL ms) := rfl
end Go.Proofs.Ytogflbpphacokaa
