/- Contract of the document's answers for layer 3: Same, where it answers true. -/
import Derived.Test.YtphcjpomneejmaaDoorLexP
namespace Go.Proofs.YtphcjpomneejmaaDoor
open Go.RowKit

/-- A token, moved by so much from a place on. -/
def sh (f b : Int) (t : Tk) : Tk := { t with a := if f ≤ t.a then t.a + b else t.a }
theorem nth_map {l : List Tk} (g : Tk → Tk) {k : Nat} (h : k < l.length) : nth (l.map g) k = g (nth l k) := by
  unfold nth; rw [List.getD_eq_getElem?_getD, List.getD_eq_getElem?_getD, List.getElem?_map, List.getElem?_eq_getElem h]; rfl
theorem nth_mem {l : List Tk} {k : Nat} (h : k < l.length) : nth l k ∈ l := by rw [nth_get h]; exact List.getElem_mem h
theorem idxT (b o len c : Nat) (i : Int) (h0 : 0 ≤ i) (h1 : i < len) (w : World) : (Instr.indexAt 23 (.slice (some ⟨b, o, none⟩) len c) (.int .i64 i)).run Tryd.prog w = .ok (.pointer (some ⟨b, o + i.toNat * 4, none⟩)) w := by
  have e := WideShapes.add_plain b o (i.toNat * 4)
  go_simp
theorem Cells4.drewN {w : World} {b o : Nat} {t : Tk} (h : Cells4 w b o t) (n : Nat) : Cells4 (w.drewN n) b o t := h
set_option maxHeartbeats 1000000 in
theorem same_any (A B : Option Addr) (p q : List Tk) (c d : Nat) (f v : Int) (w : World) (h : Rd w w.heap.size A p) (g : Rd w w.heap.size B q) (hl : p.length ≤ 140737488355328) (hq : q = p.map (sh f v)) (hv : 0 ≤ v ∧ v ≤ 1000000) (hb : ∀ t ∈ p, 0 ≤ t.a ∧ t.a ≤ 1000000) :
    Calls Tryd.prog 14 #[.slice A p.length c, .slice B q.length d, .int .i64 f, .int .i64 v] w fun e w' => e = .returned (.bool true) ∧ Below w.heap.size w w' := by
  have H := Lib.hid h
  have G := Lib.hid g
  have HBD := Lib.hid hb
  have hv1 := hv.1
  have hv2 := hv.2
  have hlen : q.length = p.length := by rw [hq]; simp
  have HQ := Lib.hid (fun k (hk : k < p.length) => show nth q k = sh f v (nth p k) by rw [hq, nth_map _ hk])
  clear h g hb hv hq
  have hn2 : (p.length != q.length) = false := by simp [hlen]
  have hn : ((p.length : Int) != q.length) = false := by simp [hlen]
  have HLN := Lib.hid hlen
  clear hlen
  go_enter Tryd.func14, Tryd.ntmps14
  go_wp2
  go_loopw [9] (fun i wr => ∃ k : Nat, k ≤ p.length ∧ i = .int .i64 k ∧ Hid (Below w.heap.size w wr)) (fun i _ => p.length - (intOf i).toNat)
  case atStart => exact ⟨0, by omega, rfl, Below.refl _ _⟩
  case round =>
    obtain ⟨k, hk, rfl, HB⟩ := hrel
    by_cases hlt : k < p.length
    · obtain ⟨b1, o1, rfl, hb1, hc1⟩ := H.out.at_ k hlt
      obtain ⟨b2, o2, rfl, hb2, hc2⟩ := G.out.at_ k (by have := HLN.out; omega)
      have hbr := HB.out.size
      obtain ⟨p0, p1, p2, p3⟩ := (hc1 k hlt).below HB.out hb1
      have q1 := idxT b1 o1 p.length c (k : Int) (by omega) (by omega)
      rw [Int.toNat_natCast] at q1
      have HC2 := Lib.hid ((hc2 k (by have := HLN.out; omega)).below HB.out hb2)
      have HK := Lib.hid (HQ.out k hlt)
      have hbd := HBD.out _ (nth_mem hlt)
      have hbd1 := hbd.1
      have hbd2 := hbd.2
      clear hbd hc1 hc2
      by_cases hf : f ≤ (nth p k).a
      · have hk4 := HK.out
        unfold sh at hk4
        rw [if_pos hf] at hk4
        have HT := HC2.out
        rw [hk4] at HT
        have HT := Lib.hid HT
        clear hk4
        go_wp2
        obtain ⟨Ws, hWs⟩ : ∃ Ws, Ws = wr.alloc (.cells #[.int .i64 (nth p k).k, .int .i64 ((nth p k).a + v), .string (bs (nth p k).w), .int .i64 (nth p k).n] 32) := ⟨_, rfl⟩
        rw [← hWs]
        have C1 := fun n => (show Cells4 (Ws.drewN n) wr.heap.size 0 { nth p k with a := (nth p k).a + v } from by rw [hWs]; exact (Cells4.box wr { nth p k with a := (nth p k).a + v }).drewN n)
        have C2 := fun n => (show Cells4 (Ws.drewN n) b2 (o2 + k * 4) { nth p k with a := (nth p k).a + v } from by rw [hWs]; exact (HT.out.below ((Below.refl wr.heap.size wr).alloc (Nat.le_refl _) _) (by omega)).drewN n)
        have HBs := Lib.hid (show Below w.heap.size w Ws from by rw [hWs]; exact HB.out.alloc hbr _)
        have n0 := fun n => (C1 n).1
        have n1 := fun n => (C1 n).2.1
        have n2 := fun n => (C1 n).2.2.1
        have n3 := fun n => (C1 n).2.2.2
        have m0 := fun n => (C2 n).1
        have m1 := fun n => (C2 n).2.1
        have m2 := fun n => (C2 n).2.2.1
        have m3 := fun n => (C2 n).2.2.2
        have q2 := idxT b2 o2 q.length d (k : Int) (by omega) (by have := HLN.out; omega)
        rw [Int.toNat_natCast] at q2
        have hne := fun W => (neqT { nth p k with a := (nth p k).a + v } { nth p k with a := (nth p k).a + v } W)
        simp only [decide_true, Bool.not_true] at hne
        clear C1 C2 hWs p0 p1 p2 p3 q1
        go_quiet (fail)
        clear q2 n0 n1 n2 n3 m0 m1 m2 m3 hne
        go_wp2
        go_roundw
        case rel => exact ⟨k + 1, by omega, by go_num, below_drewN HBs.out HBs.out.size⟩
        case measure => simp [intOf]; omega
      · have hk4 := HK.out
        unfold sh at hk4
        rw [if_neg hf] at hk4
        have HT := HC2.out
        rw [hk4] at HT
        have HT := Lib.hid HT
        clear hk4
        go_wp2
        obtain ⟨Ws, hWs⟩ : ∃ Ws, Ws = wr.alloc (.cells #[.int .i64 (nth p k).k, .int .i64 (nth p k).a, .string (bs (nth p k).w), .int .i64 (nth p k).n] 32) := ⟨_, rfl⟩
        rw [← hWs]
        have C1 := fun n => (show Cells4 (Ws.drewN n) wr.heap.size 0 (nth p k) from by rw [hWs]; exact (Cells4.box wr (nth p k)).drewN n)
        have C2 := fun n => (show Cells4 (Ws.drewN n) b2 (o2 + k * 4) (nth p k) from by rw [hWs]; exact (HT.out.below ((Below.refl wr.heap.size wr).alloc (Nat.le_refl _) _) (by omega)).drewN n)
        have HBs := Lib.hid (show Below w.heap.size w Ws from by rw [hWs]; exact HB.out.alloc hbr _)
        have n0 := fun n => (C1 n).1
        have n1 := fun n => (C1 n).2.1
        have n2 := fun n => (C1 n).2.2.1
        have n3 := fun n => (C1 n).2.2.2
        have m0 := fun n => (C2 n).1
        have m1 := fun n => (C2 n).2.1
        have m2 := fun n => (C2 n).2.2.1
        have m3 := fun n => (C2 n).2.2.2
        have q2 := idxT b2 o2 q.length d (k : Int) (by omega) (by have := HLN.out; omega)
        rw [Int.toNat_natCast] at q2
        have hne := fun W => (neqT (nth p k) (nth p k) W)
        simp only [decide_true, Bool.not_true] at hne
        clear C1 C2 hWs p0 p1 p2 p3 q1
        go_quiet (fail)
        clear q2 n0 n1 n2 n3 m0 m1 m2 m3 hne
        go_wp2
        go_roundw
        case rel => exact ⟨k + 1, by omega, by go_num, below_drewN HBs.out HBs.out.size⟩
        case measure => simp [intOf]; omega
    · obtain rfl : k = p.length := by omega
      go_wp2
      go_ret
      exact ⟨rfl, HB.out⟩
end Go.Proofs.YtphcjpomneejmaaDoor
