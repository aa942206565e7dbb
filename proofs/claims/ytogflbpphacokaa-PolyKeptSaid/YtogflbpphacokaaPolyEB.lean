/- Contracts: the values of variables. -/
import Derived.Test.YtogflbpphacokaaPolyEA
namespace Go.Proofs.Ytogflbpphacokaa
open Go.RowKit

/-- The number k of a list. -/
def ith (ds : List Int) (k : Nat) : Int := ds.getD k 0
/-- The slice value at A reads as the numbers ds, below block B. -/
def RdI (w : World) (B : Nat) (A : Option Addr) (ds : List Int) : Prop :=
  (∀ d ∈ ds, -9223372036854775808 ≤ d ∧ d ≤ 9223372036854775807) ∧ (0 < ds.length → ∃ b o, A = some ⟨b, o, none⟩ ∧ b < B ∧ ∀ i, i < ds.length → w.cell? ⟨b, o + i, none⟩ = some (.int .i64 (ith ds i)))
theorem RdI.gr {w w' : World} {A : Option Addr} {l : List Int} (h : RdI w w.heap.size A l) (hg : Gr w w') : RdI w' w'.heap.size A l :=
  ⟨h.1, fun hl => by
    obtain ⟨b, o, rfl, hb, hc⟩ := h.2 hl
    exact ⟨b, o, rfl, hg.lt hb, fun i hi => (hg.cell hb).trans (hc i hi)⟩⟩
theorem RdI.below {w w' : World} {A : Option Addr} {l : List Int} (h : RdI w w.heap.size A l) (hg : Below w.heap.size w w') : RdI w' w'.heap.size A l :=
  ⟨h.1, fun hl => by
    obtain ⟨b, o, rfl, hb, hc⟩ := h.2 hl
    exact ⟨b, o, rfl, Nat.lt_of_lt_of_le hb hg.size, fun i hi => (hg.cell (p := ⟨b, o + i, none⟩) hb).trans (hc i hi)⟩⟩
def okD (d : Int) : Bool := decide (0 ≤ d) && decide (d ≤ 2147483648)
def dimsOk (ds : List Int) : Bool := decide (ds.length ≤ 6) && ds.all okD
def DV (ds : List Int) (k : Nat) : Nat := (ith ds k).toNat
theorem getD_mem {ds : List Int} {k : Nat} (h : k < ds.length) : (ith ds k) ∈ ds := by
  unfold ith
  rw [List.getD_eq_getElem?_getD, List.getElem?_eq_getElem h]; exact List.getElem_mem h
theorem dims_long {ds : List Int} (h : ¬ ds.length ≤ 6) : dimsOk ds = false := by unfold dimsOk; rw [decide_eq_false h]; rfl
theorem dims_not {ds : List Int} {k : Nat} (hk : k < ds.length) (h : okD (ith ds k) = false) : dimsOk ds = false := by
  rw [← Bool.not_eq_true]; unfold dimsOk; rw [Bool.and_eq_true, List.all_eq_true]
  intro hh; have := hh.2 _ (getD_mem hk); rw [h] at this; cases this
theorem dims_all {ds : List Int} (h6 : ds.length ≤ 6) (h : ∀ k, k < ds.length → okD (ith ds k) = true) : dimsOk ds = true := by
  unfold dimsOk; rw [decide_eq_true h6, Bool.true_and, List.all_eq_true]
  intro d hd
  obtain ⟨k, hk, rfl⟩ := List.getElem_of_mem hd
  have := h k hk
  unfold ith at this
  rwa [List.getD_eq_getElem?_getD, List.getElem?_eq_getElem hk] at this
theorem dims_len {ds : List Int} (h : dimsOk ds = true) : ds.length ≤ 6 := by
  unfold dimsOk at h; rw [Bool.and_eq_true, decide_eq_true_eq] at h; exact h.1
theorem dims_rng {ds : List Int} (h : dimsOk ds = true) {d : Int} (hd : d ∈ ds) : 0 ≤ d ∧ d ≤ 2147483648 := by
  unfold dimsOk at h; rw [Bool.and_eq_true, List.all_eq_true] at h
  have := h.2 d hd
  simpa [okD] using this
theorem DV_le {ds : List Int} (h : dimsOk ds = true) (k : Nat) : DV ds k ≤ 2147483648 := by
  unfold DV
  by_cases hk : k < ds.length
  · have := dims_rng h (getD_mem hk); omega
  · unfold ith; rw [List.getD_eq_getElem?_getD, List.getElem?_eq_none (by omega)]; exact Nat.zero_le _
/-- The first k values, and zeros. -/
def VK (ds : List Int) (k : Nat) : Nat → Nat := fun j => if j < k then DV ds j else 0
def setV (V : Nat → Nat) (j x : Nat) : Nat → Nat := fun i => if i = j then x else V i
theorem VK_step (ds : List Int) (k : Nat) : setV (VK ds k) k (DV ds k) = VK ds (k + 1) := by
  funext i
  unfold setV VK
  by_cases h : i = k
  · subst h; rw [if_pos rfl, if_pos (by omega)]
  · rw [if_neg h]
    by_cases h2 : i < k
    · rw [if_pos h2, if_pos (by omega)]
    · rw [if_neg h2, if_neg (by omega)]
theorem VK_end (ds : List Int) : VK ds ds.length = DV ds := by
  funext i
  unfold VK
  split
  · rfl
  · unfold DV ith; rw [List.getD_eq_getElem?_getD, List.getElem?_eq_none (by omega)]; rfl
def vw (w : World) (V : Nat → Nat) : World := (w.alloc (.cells #[.int .u64 0, .int .u64 0, .int .u64 0, .int .u64 0, .int .u64 0, .int .u64 0] 58)).alloc (.cells #[.int .u64 ((V 0 : Nat) : Int), .int .u64 ((V 1 : Nat) : Int), .int .u64 ((V 2 : Nat) : Int), .int .u64 ((V 3 : Nat) : Int), .int .u64 ((V 4 : Nat) : Int), .int .u64 ((V 5 : Nat) : Int)] 58)
theorem vw_cell (w : World) (V : Nat → Nat) {v : Nat} (hv : v < 6) : (vw w V).cell? ⟨w.heap.size + 1, v, none⟩ = some (.int .u64 (V v : Nat)) := by
  unfold vw
  match v, hv with
  | 0, _ => go_simp <;> rfl
  | 1, _ => go_simp <;> rfl
  | 2, _ => go_simp <;> rfl
  | 3, _ => go_simp <;> rfl
  | 4, _ => go_simp <;> rfl
  | 5, _ => go_simp <;> rfl
theorem vw_frozen (w : World) (V : Nat → Nat) (v : Nat) : (vw w V).frozen? ⟨w.heap.size + 1, v, none⟩ = false := by
  unfold vw; go_simp
theorem vw_set (w : World) (V : Nat → Nat) {v : Nat} (hv : v < 6) (x : Nat) : (vw w V).setCell ⟨w.heap.size + 1, v, none⟩ (.int .u64 x) = vw w (setV V v x) := by
  unfold vw
  match v, hv with
  | 0, _ => go_simp <;> rfl
  | 1, _ => go_simp <;> rfl
  | 2, _ => go_simp <;> rfl
  | 3, _ => go_simp <;> rfl
  | 4, _ => go_simp <;> rfl
  | 5, _ => go_simp <;> rfl
theorem vw_gr (w : World) (V : Nat → Nat) : Gr w (vw w V) := ((Gr.refl _).alloc _).alloc _

def VarRes (w : World) (ds : List Int) (e : Ending) (w' : World) : Prop :=
  ∃ (V : Nat → Nat) (k : Int), e = .returned (.tuple #[.agg #[.int .u64 ((V 0 : Nat) : Int), .int .u64 ((V 1 : Nat) : Int), .int .u64 ((V 2 : Nat) : Int), .int .u64 ((V 3 : Nat) : Int), .int .u64 ((V 4 : Nat) : Int), .int .u64 ((V 5 : Nat) : Int)], .int .i64 k]) ∧ ((dimsOk ds = true ∧ k = 0 ∧ V = DV ds) ∨ (dimsOk ds = false ∧ k = 23)) ∧ Gr w w'

set_option maxHeartbeats 1000000 in
theorem variables_any (A : Option Addr) (ds : List Int) (c : Nat) (w : World) (h : RdI w w.heap.size A ds) (hl : ds.length ≤ maxLen) :
    Calls Try.prog 44 #[.slice A ds.length c] w (VarRes w ds) := by
  have H := Lib.hid h
  have hl0 := hl
  unfold maxLen at hl
  clear h
  by_cases h6 : ds.length ≤ 6
  · go_enter Try.func44, Try.ntmps44
    go_wp2
    go_loopw [13] (fun i wr => ∃ k : Nat, k ≤ ds.length ∧ i = .int .i64 k ∧ (∀ j, j < k → okD (ith ds j) = true) ∧ wr = vw w (VK ds k)) (fun i _ => ds.length - (intOf i).toNat)
    case atStart => exact ⟨0, by omega, rfl, fun j hj => by omega, rfl⟩
    case round =>
      obtain ⟨k, hk, rfl, hok, hwr⟩ := hrel
      have HK := Lib.hid hok
      have HWR := Lib.hid hwr
      clear hok
      by_cases hlt : k < ds.length
      · obtain ⟨b, o, rfl, hb, hc⟩ := H.out.2 (by omega)
        have c0 : wr.cell? ⟨b, o + k, none⟩ = some (.int .i64 (ith ds k)) := by rw [hwr]; exact ((vw_gr w _).cell hb).trans (hc k hlt)
        clear hc hwr
        by_cases h1 : (ith ds k) < 0
        · have hz := Lib.hid (dims_not hlt (show okD (ith ds k) = false by simp [okD]; omega))
          have hw := HWR.out
          clear HWR
          subst hw
          unfold vw at c0 ⊢
          go_wp2
          refine bodyPost_ret (v := .tuple #[.agg #[.int .u64 0, .int .u64 0, .int .u64 0, .int .u64 0, .int .u64 0, .int .u64 0], .int .i64 23]) (by simp [results, Try.results44, go_sem]) rfl ⟨fun _ => 0, 23, rfl, .inr ⟨hz.out, rfl⟩, ((Gr.refl _).alloc _).alloc _⟩
        · by_cases h2 : 2147483648 < (ith ds k)
          · have hz := Lib.hid (dims_not hlt (show okD (ith ds k) = false by simp [okD]; omega))
            have hw := HWR.out
            clear HWR
            subst hw
            unfold vw at c0 ⊢
            go_wp2
            refine bodyPost_ret (v := .tuple #[.agg #[.int .u64 0, .int .u64 0, .int .u64 0, .int .u64 0, .int .u64 0, .int .u64 0], .int .i64 23]) (by simp [results, Try.results44, go_sem]) rfl ⟨fun _ => 0, 23, rfl, .inr ⟨hz.out, rfl⟩, ((Gr.refl _).alloc _).alloc _⟩
          · have hokk := Lib.hid (show okD (ith ds k) = true by simp [okD]; omega)
            have hk6 : k < 6 := by omega
            have q1 := idxG (w.heap.size + 1) k hk6
            have e1 : wr.cell? ⟨w.heap.size + 1, k, none⟩ = some (.int .u64 (VK ds k k : Nat)) := by rw [HWR.out]; exact vw_cell w _ hk6
            have e2 : wr.frozen? ⟨w.heap.size + 1, k, none⟩ = false := by rw [HWR.out]; exact vw_frozen w _ k
            go_wp2
            go_roundw
            case rel => exact ⟨k + 1, by omega, by go_num, fun j hj => by
              rcases Nat.lt_or_ge j k with h3 | h3
              · exact HK.out j h3
              · obtain rfl : j = k := by omega
                exact hokk.out, by rw [HWR.out, show (Value.int .u64 (ith ds k)) = .int .u64 (DV ds k : Nat) from by unfold DV; congr 1; omega, vw_set w _ hk6, VK_step]⟩
            case measure => simp [intOf]; omega
      · obtain rfl : k = ds.length := by omega
        have hz := Lib.hid (dims_all h6 HK.out)
        have hw := HWR.out
        rw [VK_end] at hw
        clear HWR hwr
        subst hw
        unfold vw
        go_wp2
        refine bodyPost_ret (v := .tuple #[.agg #[.int .u64 (((DV ds) 0 : Nat) : Int), .int .u64 (((DV ds) 1 : Nat) : Int), .int .u64 (((DV ds) 2 : Nat) : Int), .int .u64 (((DV ds) 3 : Nat) : Int), .int .u64 (((DV ds) 4 : Nat) : Int), .int .u64 (((DV ds) 5 : Nat) : Int)], .int .i64 0]) (by simp [results, Try.results44, go_sem]) rfl ⟨DV ds, 0, rfl, .inl ⟨hz.out, rfl, rfl⟩, ((Gr.refl _).alloc _).alloc _⟩
  · have hz := Lib.hid (dims_long h6)
    go_enter Try.func44, Try.ntmps44
    go_wp2
    refine bodyPost_ret (v := .tuple #[.agg #[.int .u64 0, .int .u64 0, .int .u64 0, .int .u64 0, .int .u64 0, .int .u64 0], .int .i64 23]) (by simp [results, Try.results44, go_sem]) rfl ⟨fun _ => 0, 23, rfl, .inr ⟨hz.out, rfl⟩, ((Gr.refl _).alloc _).alloc _⟩
end Go.Proofs.Ytogflbpphacokaa
