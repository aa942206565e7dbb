/- Layer 4, put together: ParRx, ParSm, ParRd, ParRe, ParRf, ParRg, ParRh, ParRi, ParRj. -/
import Derived.Test.YthdognmppbckbaaDoorZM2
import Derived.Test.YthdognmppbckbaaDoorZPi
import Derived.Test.YthdognmppbckbaaDoorZPj
/- Expressions, the document's way, over plain lists; that the code's way is the same. -/
namespace Go.Proofs.YthdognmppbckbaaDoor
open Go.RowKit
inductive Rx where
  | ok (l : List It) (rest : List Tk)
  | err (a e : Int)
deriving DecidableEq
/-- An operand: at t, behind it r; f: what stands in brackets. -/
def ropd (f : List Tk → Rx) (d : Nat) (t : Tk) (r : List Tk) : Rx :=
  if t.k = 2 then .ok [⟨1, t.a, 0, [], t.n :: numsOf r⟩] (pastNums r)
  else if nameB t.w then .ok [⟨2, t.a, 0, t.w, []⟩] r
  else if t.w = [40] then (if d = 32 then .err t.a 44 else match f r with
    | .err a e => .err a e
    | .ok _ [] => .err 0 0
    | .ok l (u :: r') => if u.w = [41] then .ok l r' else .err u.a 42)
  else if t.k = 1 then .err t.a 41 else .err t.a 42
/-- Behind an operand. -/
def rtail (f : List Tk → Rx) (left : List It) : List Tk → Rx
  | [] => .err 0 0
  | u :: r => if u.k = 4 ∨ u.w = [41] then .ok left (u :: r)
    else if vb u.w then (if (phR u.w true (mk r).1).2 = 0 then .err u.a 43 else match f (mk r).2 with
      | .err a e => .err a e
      | .ok l rest => .ok (left ++ l ++ [⟨(phR u.w true (mk r).1).1, u.a, (phR u.w true (mk r).1).2, [], []⟩]) rest)
    else .err u.a 46
def rx : Nat → Nat → List Tk → Rx
  | 0, _, _ => .err 0 0
  | _ + 1, _, [] => .err 0 0
  | n + 1, d, t :: r =>
    if vb t.w then
      (if (phR t.w false (mk r).1).2 = 0 then .err t.a 43 else match rx n d (mk r).2 with
        | .err a e => .err a e
        | .ok l rest => .ok (l ++ [⟨(phR t.w false (mk r).1).1, t.a, (phR t.w false (mk r).1).2, [], []⟩]) rest)
    else match ropd (rx n (d + 1)) d t r with
      | .err a e => .err a e
      | .ok left rest => rtail (rx n d) left rest
theorem rtail_cons (f : List Tk → Rx) (left : List It) (u : Tk) (r : List Tk) : rtail f left (u :: r) = if u.k = 4 ∨ u.w = [41] then .ok left (u :: r)
    else if vb u.w then (if (phR u.w true (mk r).1).2 = 0 then .err u.a 43 else match f (mk r).2 with
      | .err a e => .err a e
      | .ok l rest => .ok (left ++ l ++ [⟨(phR u.w true (mk r).1).1, u.a, (phR u.w true (mk r).1).2, [], []⟩]) rest)
    else .err u.a 46 := rfl
theorem rx_cons (n d : Nat) (t : Tk) (r : List Tk) : rx (n + 1) d (t :: r) = if vb t.w then
      (if (phR t.w false (mk r).1).2 = 0 then .err t.a 43 else match rx n d (mk r).2 with
        | .err a e => .err a e
        | .ok l rest => .ok (l ++ [⟨(phR t.w false (mk r).1).1, t.a, (phR t.w false (mk r).1).2, [], []⟩]) rest)
    else match ropd (rx n (d + 1)) d t r with
      | .err a e => .err a e
      | .ok left rest => rtail (rx n d) left rest := rfl
theorem mk_suf (r : List Tk) : (mk r).2 <:+ r := by
  unfold mk
  split
  · exact List.suffix_refl _
  · split
    · exact List.suffix_cons _ _
    · exact List.suffix_refl _
theorem past_suf (r : List Tk) : pastNums r <:+ r := List.dropWhile_suffix _
/-- What is said of a list's rest. -/
structure Rest (ts rest : List Tk) : Prop where
  ends : Ends rest
  suf : rest <:+ ts
  cl : ∃ u r', rest = u :: r' ∧ closes u
def RxOk (ts : List Tk) (b : Bool) (l0 l : List It) (s : List (Option It)) : Rx → Prop
  | .err a e => mrun ts b l0 s = .err a e
  | .ok its rest => mrun ts b l0 s = mrun rest true (l ++ its) s ∧ Rest ts rest
theorem Rest.up {ts us rest : List Tk} (h : Rest ts rest) (g : ts <:+ us) : Rest us rest := ⟨h.ends, h.suf.trans g, h.cl⟩
def E4 (ts : List Tk) : Prop := ∀ t ∈ ts, t.k = 4 → t.w = []
theorem E4.suf {ts us : List Tk} (h : E4 us) (g : ts <:+ us) : E4 ts := fun t ht => h t (g.subset ht)
theorem vb_cl : vb [41] = false := by decide
theorem tail_ok {n d : Nat} (ih : ∀ (ts : List Tk) (l : List It) (s : List (Option It)), ts.length ≤ n → Ends ts → E4 ts → opens s = d → RxOk ts false l l s (rx n d ts)) (left : List It) (ts : List Tk) (l : List It) (s : List (Option It)) (hl : ts.length ≤ n + 1) (he : Ends ts) (h4 : E4 ts) (ho : opens s = d) :
    RxOk ts true (l ++ left) l s (rtail (rx n d) left ts) := by
  cases ts with
  | nil => exact he.elim
  | cons u r =>
    rw [rtail_cons]
    by_cases hc : u.k = 4 ∨ u.w = [41]
    · rw [if_pos hc]
      refine ⟨rfl, he, List.suffix_refl _, u, r, rfl, ?_, hc⟩
      rcases hc with hc | hc
      · rw [h4 u (by simp) hc]; exact vb_nil
      · rw [hc]; exact vb_cl
    · rw [if_neg hc]
      have hn4 : ¬ u.k = 4 := fun h => hc (.inl h)
      have hn41 : ¬ u.w = [41] := fun h => hc (.inr h)
      by_cases hv : vb u.w = true
      · rw [if_pos hv]
        by_cases hp : (phR u.w true (mk r).1).2 = 0
        · rw [if_pos hp]
          show mrun _ _ _ _ = _
          rw [mrun_cons, if_pos hv, if_pos hp]
        · rw [if_neg hp]
          have hr := he.next fun h => hn4 h.1
          have hs : (mk r).2 <:+ u :: r := (mk_suf r).trans (List.suffix_cons _ _)
          have h1 := ih (mk r).2 (l ++ left) (some ⟨(phR u.w true (mk r).1).1, u.a, (phR u.w true (mk r).1).2, [], []⟩ :: s) (by have := mk_len r; simp only [List.length_cons] at hl; omega) hr.mk (h4.suf hs) ho
          have h2 : mrun (u :: r) true (l ++ left) s = mrun (mk r).2 false (l ++ left) (some ⟨(phR u.w true (mk r).1).1, u.a, (phR u.w true (mk r).1).2, [], []⟩ :: s) := by rw [mrun_cons, if_pos hv, if_neg hp]
          cases hx : rx n d (mk r).2 with
          | err a e =>
            rw [hx] at h1
            exact h2.trans h1
          | ok its rest =>
            rw [hx] at h1
            obtain ⟨h3, h5⟩ := h1
            obtain ⟨v, r', rfl, hcl⟩ := h5.cl
            refine ⟨?_, h5.up hs⟩
            rw [h2, h3, mrun_shift hcl]
            simp
      · rw [if_neg hv]
        show mrun _ _ _ _ = _
        rw [mrun_cons, if_neg hv, if_neg (by decide), if_neg hn4, if_neg (fun h => hn41 h.1)]
theorem opd_ok {n d : Nat} (ih : ∀ (ts : List Tk) (l : List It) (s : List (Option It)), ts.length ≤ n → Ends ts → E4 ts → opens s = d + 1 → RxOk ts false l l s (rx n (d + 1) ts)) (t : Tk) (r : List Tk) (l : List It) (s : List (Option It)) (hl : r.length ≤ n) (he : Ends (t :: r)) (h4 : E4 (t :: r)) (hv : ¬ vb t.w = true) (ho : opens s = d) :
    match ropd (rx n (d + 1)) d t r with
    | .err a e => mrun (t :: r) false l s = .err a e
    | .ok its rest => mrun (t :: r) false l s = mrun rest true (l ++ its) s ∧ Ends rest ∧ rest <:+ r := by
  have hm : mrun (t :: r) false l s = (if t.k = 2 then mrun (pastNums r) true (l ++ [⟨1, t.a, 0, [], t.n :: numsOf r⟩]) s
      else if nameB t.w then mrun r true (l ++ [⟨2, t.a, 0, t.w, []⟩]) s
      else if t.w = [40] then (if opens s = 32 then .err t.a 44 else mrun r false l (none :: s))
      else if t.k = 1 then .err t.a 41 else .err t.a 42) := by rw [mrun_cons, if_neg hv, if_pos rfl]
  unfold ropd
  by_cases h2 : t.k = 2
  · rw [if_pos h2, hm, if_pos h2]
    have hr := he.next fun h => by omega
    exact ⟨rfl, hr.past, past_suf r⟩
  · rw [if_neg h2]
    rw [if_neg h2] at hm
    by_cases hn : nameB t.w = true
    · rw [if_pos hn, hm, if_pos hn]
      refine ⟨rfl, he.next fun h => ?_, List.suffix_refl _⟩
      rw [h.2, name_nil] at hn
      cases hn
    · rw [if_neg hn]
      rw [if_neg hn] at hm
      by_cases h40 : t.w = [40]
      · rw [if_pos h40]
        rw [if_pos h40, ho] at hm
        by_cases hd : d = 32
        · rw [if_pos hd]
          rw [if_pos hd] at hm
          exact hm
        · rw [if_neg hd]
          rw [if_neg hd] at hm
          have hr := he.next fun h => by rw [h.2] at h40; cases h40
          have h1 := ih r l (none :: s) hl hr (h4.suf (List.suffix_cons _ _)) (by show opens s + 1 = _; omega)
          cases hx : rx n (d + 1) r with
          | err a e =>
            rw [hx] at h1
            exact hm.trans h1
          | ok its rest =>
            rw [hx] at h1
            obtain ⟨h3, h5⟩ := h1
            obtain ⟨u, r', rfl, hcl⟩ := h5.cl
            have hcons : mrun (u :: r') true (l ++ its) (none :: s) = (if u.k = 4 then .err u.a 42 else if u.w = [41] then mrun r' true (l ++ its) s else .err u.a 46) := by
              rw [mrun_cons, hcl.1, if_neg (by decide), if_neg (by decide), if_pos (show 0 < opens (none :: s) from Nat.succ_pos _)]
              have e : (u.w = [41] ∧ 0 < opens (none :: s)) = (u.w = [41]) := propext ⟨fun h => h.1, fun h => ⟨h, Nat.succ_pos _⟩⟩
              simp only [e]
              rfl
            show match (if u.w = [41] then Rx.ok its r' else .err u.a 42) with | .err a e => _ | .ok its rest => _
            by_cases h41 : u.w = [41]
            · rw [if_pos h41]
              have hu4 : ¬ u.k = 4 := fun h => by have := h4 u ((List.suffix_cons _ _ : r <:+ t :: r).subset (h5.suf.subset (by simp))) h; rw [this] at h41; cases h41
              refine ⟨?_, h5.ends.next fun h => hu4 h.1, (List.suffix_cons _ _).trans h5.suf⟩
              rw [hm, h3, hcons, if_neg hu4, if_pos h41]
            · rw [if_neg h41]
              show mrun _ _ _ _ = _
              rw [hm, h3, hcons, if_pos (hcl.2.resolve_right h41)]
      · rw [if_neg h40]
        rw [if_neg h40] at hm
        by_cases h1 : t.k = 1
        · rw [if_pos h1]
          rw [if_pos h1] at hm
          exact hm
        · rw [if_neg h1]
          rw [if_neg h1] at hm
          exact hm
/-- Both ways are the same. -/
theorem rx_ok : ∀ (n d : Nat) (ts : List Tk) (l : List It) (s : List (Option It)), ts.length ≤ n → Ends ts → E4 ts → opens s = d → RxOk ts false l l s (rx n d ts) := by
  intro n
  induction n with
  | zero =>
    intro d ts l s hl he
    exact absurd he.pos (by omega)
  | succ n ih =>
    intro d ts l s hl he h4 ho
    cases ts with
    | nil => exact he.elim
    | cons t r =>
      simp only [List.length_cons] at hl
      rw [rx_cons]
      by_cases hv : vb t.w = true
      · rw [if_pos hv]
        by_cases hp : (phR t.w false (mk r).1).2 = 0
        · rw [if_pos hp]
          show mrun _ _ _ _ = _
          rw [mrun_cons, if_pos hv, if_pos hp]
        · rw [if_neg hp]
          have hr := he.next fun h => by rw [h.2, vb_nil] at hv; cases hv
          have hs : (mk r).2 <:+ t :: r := (mk_suf r).trans (List.suffix_cons _ _)
          have h1 := ih d (mk r).2 l (some ⟨(phR t.w false (mk r).1).1, t.a, (phR t.w false (mk r).1).2, [], []⟩ :: s) (by have := mk_len r; omega) hr.mk (h4.suf hs) ho
          have h2 : mrun (t :: r) false l s = mrun (mk r).2 false l (some ⟨(phR t.w false (mk r).1).1, t.a, (phR t.w false (mk r).1).2, [], []⟩ :: s) := by rw [mrun_cons, if_pos hv, if_neg hp]
          cases hx : rx n d (mk r).2 with
          | err a e =>
            rw [hx] at h1
            exact h2.trans h1
          | ok its rest =>
            rw [hx] at h1
            obtain ⟨h3, h5⟩ := h1
            obtain ⟨v, r', rfl, hcl⟩ := h5.cl
            refine ⟨?_, h5.up hs⟩
            rw [h2, h3, mrun_shift hcl]
            simp
      · rw [if_neg hv]
        have h1 := opd_ok (n := n) (d := d) (fun ts l s a b c e => ih (d + 1) ts l s a b c e) t r l s (by omega) he h4 hv ho
        cases hx : ropd (rx n (d + 1)) d t r with
        | err a e =>
          rw [hx] at h1
          exact h1
        | ok left rest =>
          rw [hx] at h1
          obtain ⟨h2, h3, h5⟩ := h1
          have h6 := tail_ok (n := n) (d := d) (fun ts l s a b c e => ih d ts l s a b c e) left rest l s (by have := h5.length_le; omega) h3 (h4.suf (h5.trans (List.suffix_cons _ _))) ho
          show RxOk _ _ _ _ _ (rtail (rx n d) left rest)
          cases hy : rtail (rx n d) left rest with
          | err a e =>
            rw [hy] at h6
            exact h2.trans h6
          | ok its rest' =>
            rw [hy] at h6
            exact ⟨h2.trans h6.1, h6.2.up (h5.trans (List.suffix_cons _ _))⟩
/-- What goes to the line's end. -/
def rwhole (ts : List Tk) : Er := match rx ts.length 0 ts with
  | .err a e => .err a e
  | .ok _ [] => .err 0 0
  | .ok l (u :: _) => if u.k = 4 then .ok l else .err u.a 46
theorem whole_eq {ts : List Tk} (he : Ends ts) (h4 : E4 ts) : exprR ts = rwhole ts := by
  have h := rx_ok ts.length 0 ts [] [] (Nat.le_refl _) he h4 rfl
  unfold exprR rwhole
  cases hx : rx ts.length 0 ts with
  | err a e =>
    rw [hx] at h
    exact h
  | ok l rest =>
    rw [hx] at h
    obtain ⟨h1, h2⟩ := h
    obtain ⟨u, r', rfl, hcl⟩ := h2.cl
    rw [h1, List.nil_append, mrun_cons, hcl.1, if_neg (by decide), if_neg (by decide)]
    show _ = if u.k = 4 then Er.ok l else Er.err u.a 46
    by_cases h : u.k = 4
    · rw [if_pos h, if_pos h, if_neg (by decide)]; rfl
    · rw [if_neg h, if_neg h, if_neg (fun h => by have := h.2; simp [opens] at this)]
end Go.Proofs.YthdognmppbckbaaDoor
/- Contract of the document's Same: programs that are the same. -/
namespace Go.Proofs.YthdognmppbckbaaDoor
open Go.RowKit
set_option maxRecDepth 100000 in
set_option maxHeartbeats 3200000 in
theorem same04_any (Ai Al Bi Bl : Option Addr) (ci cl di dl n m : Nat) (p : Pg) (w : World) (hn : p.ins.length = n) (hm : p.lns.length = m) (h : PR w Ai Al p) (g : PR w Bi Bl p) (hb : PgBd p) (hn7 : n ≤ 100) (hm7 : m ≤ 100) (h4 : ∀ x ∈ p.ins, x.sd.length ≤ 4) :
    Calls Tryd.prog 14 #[.agg #[.slice Ai n ci, .slice Al m cl], .agg #[.slice Bi n di, .slice Bl m dl]] w fun e w' => e = .returned (.bool true) ∧ Below w.heap.size w w' := by
  have HZ := Lib.hid (And.intro (And.intro hn hm) (And.intro hb h4))
  obtain ⟨V, hV⟩ : ∃ V, V = (w.alloc (.cells #[.slice Ai n ci, .slice Al m cl] 26)).alloc (.cells #[.slice Bi n di, .slice Bl m dl] 26) := ⟨_, rfl⟩
  have hbV : Below w.heap.size w V := by rw [hV]; exact ((Below.refl _ _).alloc (Nat.le_refl _) _).alloc (by simp) _
  have HV := Lib.hid (And.intro hbV (And.intro (h.below hbV) (g.below hbV)))
  have g1 : V.heap[w.heap.size]? = some (.cells #[.slice Ai n ci, .slice Al m cl] 26 (0, 0)) := by rw [hV]; exact box1 w _ _
  have g2 : V.heap[w.heap.size + 1]? = some (.cells #[.slice Bi n di, .slice Bl m dl] 26 (0, 0)) := by rw [hV]; exact box2 w _ _
  have F := Lib.hid (And.intro (show V.cell? ⟨w.heap.size, 0, none⟩ = some (.slice Ai n ci) by rw [cell_of_row _ _ _ _ _ _ g1]; rfl) (And.intro (show V.cell? ⟨w.heap.size, 1, none⟩ = some (.slice Al m cl) by rw [cell_of_row _ _ _ _ _ _ g1]; rfl)
    (And.intro (show V.cell? ⟨w.heap.size + 1, 0, none⟩ = some (.slice Bi n di) by rw [cell_of_row _ _ _ _ _ _ g2]; rfl) (show V.cell? ⟨w.heap.size + 1, 1, none⟩ = some (.slice Bl m dl) by rw [cell_of_row _ _ _ _ _ _ g2]; rfl))))
  have HS := Lib.hid (And.intro (heap_lt g1) (heap_lt g2))
  have HE := Lib.hid hV
  have HAL := Lib.hid (fun (W : World) (hw : Below V.heap.size V W) => alike_any Ai Al Bi Bl ci cl di dl n m p p W hn hm ((h.below hbV).below hw) ((g.below hbV).below hw) rfl hb hn7 hm7 h4)
  clear h g hb h4 hn hm hbV g1 g2 hV
  go_enter Tryd.func14, Tryd.ntmps14
  go_wp2_with fail
  rw [← HE.out]
  refine (HAL.out _ (Below.refl _ _)).mono ?_
  rintro e W1 ⟨rfl, b1⟩
  have B1 := Lib.hid b1
  clear b1 HAL
  go_wp2
  go_loopw [5] (fun i wr => ∃ k : Nat, k ≤ n ∧ i = .int .i64 k ∧ Hid (Below V.heap.size V wr)) (fun i _ => n - (intOf i).toNat)
  case atStart => exact ⟨0, by omega, rfl, B1.out⟩
  case round =>
    obtain ⟨k, hk, rfl, HB⟩ := hrel
    rename World => wo
    have hs1 := HS.out.1
    have hs2 := HS.out.2
    by_cases hlt : k < n
    · obtain ⟨x, hx⟩ : ∃ x, x = p.ins.getD k default := ⟨_, rfl⟩
      have hkp : k < p.ins.length := by rw [HZ.out.1.1]; exact hlt
      obtain ⟨g1, rfl, hg1, hl1⟩ := HV.out.2.1.ins (by omega)
      obtain ⟨g2, rfl, hg2, hl2⟩ := HV.out.2.2.ins (by omega)
      obtain ⟨_, a1, _⟩ := hl1 k hkp
      obtain ⟨_, b1, _⟩ := hl2 k hkp
      rw [← hx] at a1 b1
      have u0 := fun j => (show (wo.drewN j).cell? ⟨w.heap.size, 0, none⟩ = some (.slice (some ⟨g1, 0, none⟩) n ci) from (cell_below HB.out hs1 0).trans F.out.1)
      have v0 := fun j => (show (wo.drewN j).cell? ⟨w.heap.size + 1, 0, none⟩ = some (.slice (some ⟨g2, 0, none⟩) n di) from (cell_below HB.out hs2 0).trans F.out.2.2.1)
      have u1 := fun j => (show (wo.drewN j).cell? ⟨g1, k * 3 + 1, none⟩ = some (.int .i64 x.pl) from (cell_below HB.out hg1 _).trans a1)
      have v1 := fun j => (show (wo.drewN j).cell? ⟨g2, k * 3 + 1, none⟩ = some (.int .i64 x.pl) from (cell_below HB.out hg2 _).trans b1)
      have q1 := idxIn g1 n ci k hlt
      have q2 := idxIn g2 n di k hlt
      have u00 := u0 0
      change wo.cell? ⟨w.heap.size, 0, none⟩ = _ at u00
      clear a1 b1 hl1 hl2 hx hkp hg1 hg2
      go_wp2
      go_quiet (fail)
      clear u0 v0 u1 v1 q1 q2 u00
      go_wp2
      go_roundw
      case rel => exact ⟨k + 1, by omega, by go_num, by first | exact HB.out | exact hidDrew HB _⟩
      case measure => simp [intOf]; omega
    · obtain hkn : n = k := by omega
      subst hkn
      have u00 : wo.cell? ⟨w.heap.size, 0, none⟩ = some (.slice Ai n ci) := (cell_below HB.out hs1 0).trans F.out.1
      go_wp2
      clear u00
      clear hlt
      go_loopw [6] (fun i wr => ∃ k : Nat, k ≤ m ∧ i = .int .i64 k ∧ Hid (Below V.heap.size V wr)) (fun i _ => m - (intOf i).toNat)
      case atStart => exact ⟨0, by omega, rfl, HB⟩
      case round =>
        obtain ⟨k, hk2, rfl, HB2⟩ := hrel
        by_cases hlt : k < m
        · obtain ⟨x, hx⟩ : ∃ x, x = p.lns.getD k default := ⟨_, rfl⟩
          have hkp : k < p.lns.length := by rw [HZ.out.1.2]; exact hlt
          have hxb := HZ.out.2.1.its x (by rw [hx, List.getD_eq_getElem?_getD, List.getElem?_eq_getElem hkp]; exact List.getElem_mem hkp)
          obtain ⟨g1, rfl, hg1, hl1⟩ := HV.out.2.1.lns (by omega)
          obtain ⟨g2, rfl, hg2, hl2⟩ := HV.out.2.2.lns (by omega)
          obtain ⟨_, a1, A, c, a2, _, a3⟩ := hl1 k hkp
          obtain ⟨_, b1, B, d, b2, _, b3⟩ := hl2 k hkp
          obtain ⟨z, hz⟩ : ∃ z, z = x.its.length := ⟨_, rfl⟩
          rw [← hx] at a1 a2 a3 b1 b2 b3
          rw [← hz] at a2 b2
          have u0 := fun j => (show (wr.drewN j).cell? ⟨w.heap.size, 1, none⟩ = some (.slice (some ⟨g1, 0, none⟩) m cl) from (cell_below HB2.out hs1 1).trans F.out.2.1)
          have v0 := fun j => (show (wr.drewN j).cell? ⟨w.heap.size + 1, 1, none⟩ = some (.slice (some ⟨g2, 0, none⟩) m dl) from (cell_below HB2.out hs2 1).trans F.out.2.2.2)
          have u1 := fun j => (show (wr.drewN j).cell? ⟨g1, k * 3 + 1, none⟩ = some (.int .i64 x.pl) from (cell_below HB2.out hg1 _).trans a1)
          have v1 := fun j => (show (wr.drewN j).cell? ⟨g2, k * 3 + 1, none⟩ = some (.int .i64 x.pl) from (cell_below HB2.out hg2 _).trans b1)
          have q1 := idxLn g1 m cl k hlt
          have q2 := idxLn g2 m dl k hlt
          have u00 := u0 0
          change wr.cell? ⟨w.heap.size, 1, none⟩ = _ at u00
          have hz7 : z ≤ 100000 := by have := hxb.2.1; omega
          have HG := Lib.hid (And.intro (And.intro hg1 hg2) (And.intro (And.intro a2 b2) (And.intro (And.intro a3 b3) hz.symm)))
          clear a1 a2 a3 b1 b2 b3 hl1 hl2 hx hkp hg1 hg2 hxb hz
          go_wp2
          go_quiet (fail)
          clear u0 v0 u1 v1 u00
          go_wp2
          go_loopw [7] (fun i wx => ∃ j : Nat, j ≤ z ∧ i = .int .i64 j ∧ Hid (Below V.heap.size V wx)) (fun i _ => z - (intOf i).toNat)
          case atStart => exact ⟨0, by omega, rfl, by first | exact HB2.out | exact hidDrew HB2 _⟩
          case round =>
            obtain ⟨j, hj, rfl, HB3⟩ := hrel
            rename World => wy
            have hg1 := HG.out.1.1
            have hg2 := HG.out.1.2
            have u0 := fun j => (show (wy.drewN j).cell? ⟨w.heap.size, 1, none⟩ = some (.slice (some ⟨g1, 0, none⟩) m cl) from (cell_below HB3.out hs1 1).trans F.out.2.1)
            have v0 := fun j => (show (wy.drewN j).cell? ⟨w.heap.size + 1, 1, none⟩ = some (.slice (some ⟨g2, 0, none⟩) m dl) from (cell_below HB3.out hs2 1).trans F.out.2.2.2)
            have u2 := fun j => (show (wy.drewN j).cell? ⟨g1, k * 3 + 2, none⟩ = some (.slice A z c) from (cell_below HB3.out hg1 _).trans HG.out.2.1.1)
            have v2 := fun j => (show (wy.drewN j).cell? ⟨g2, k * 3 + 2, none⟩ = some (.slice B z d) from (cell_below HB3.out hg2 _).trans HG.out.2.1.2)
            have u00 := u0 0
            have u20 := u2 0
            change wy.cell? ⟨w.heap.size, 1, none⟩ = _ at u00
            change wy.cell? ⟨g1, k * 3 + 2, none⟩ = _ at u20
            by_cases hjl : j < z
            · obtain ⟨b3, o3, rfl, ⟨lb3, _⟩, hn3⟩ := HG.out.2.2.1.1 (by rw [HG.out.2.2.2]; omega)
              obtain ⟨b4, o4, rfl, ⟨lb4, _⟩, hn4⟩ := HG.out.2.2.1.2 (by rw [HG.out.2.2.2]; omega)
              obtain ⟨_, m1, _⟩ := hn3 j (by rw [HG.out.2.2.2]; exact hjl)
              obtain ⟨_, m3, _⟩ := hn4 j (by rw [HG.out.2.2.2]; exact hjl)
              obtain ⟨it, hit⟩ : ∃ it, it = (x.its.getD j default).pl := ⟨_, rfl⟩
              rw [← hit] at m1 m3
              have y0 := fun t => (show (wy.drewN t).cell? ⟨b3, o3 + j * 5 + 1, none⟩ = some (.int .i64 it) from (cell_below HB3.out lb3 _).trans m1)
              have y1 := fun t => (show (wy.drewN t).cell? ⟨b4, o4 + j * 5 + 1, none⟩ = some (.int .i64 it) from (cell_below HB3.out lb4 _).trans m3)
              have q3 := idxIt b3 o3 z c j hjl
              have q4 := idxIt b4 o4 z d j hjl
              clear hn3 hn4 m1 m3 hit
              go_wp2
              go_quiet (fail)
              clear u0 v0 u2 v2 y0 y1 q1 q2 q3 q4 u00 u20
              go_wp2
              go_roundw
              case rel => exact ⟨j + 1, by omega, by go_num, by first | exact HB3.out | exact hidDrew HB3 _⟩
              case measure => simp [intOf]; omega
            · obtain hjx : z = j := by omega
              subst hjx
              go_wp2
              clear u0 v0 u2 v2 u00 u20 q1 q2
              go_roundw
              case rel => exact ⟨k + 1, by omega, by go_num, HB3⟩
              case measure => simp [intOf]; omega
        · obtain hkm : m = k := by omega
          subst hkm
          have u00 : wr.cell? ⟨w.heap.size, 1, none⟩ = some (.slice Al m cl) := (cell_below HB2.out hs1 1).trans F.out.2.1
          go_wp2
          go_ret
          exact ⟨rfl, HV.out.1.trans (HB2.out.mono HV.out.1.size)⟩
end Go.Proofs.YthdognmppbckbaaDoor
/- The document's Reader: what lies in its block; the contracts of place, is, verb. -/
namespace Go.Proofs.YthdognmppbckbaaDoor
open Go.RowKit
/-- A reader: its tokens (n of them), where it stands, the line's end, how deep, the fault. -/
structure RZ (w : World) (R g : Nat) (T : List Tk) (n c : Nat) (I : Nat) (E : Int) (D : Int) (fa fc : Int) : Prop where
  blk : w.heap[R]? = some (.cells #[.slice (some ⟨g, 0, none⟩) n c, .int .i64 I, .int .i64 E, .int .i64 D, .int .i64 fa, .int .i64 fc] 70 (0, 0))
  hn : T.length = n
  lg : g < w.heap.size
  ne : g ≠ R
  tok : ∀ i, i < n → Cells4 w g (i * 4) (T.getD i default)
theorem RZ.lt {w : World} {R g n c I : Nat} {T : List Tk} {E D fa fc : Int} (h : RZ w R g T n c I E D fa fc) : R < w.heap.size := heap_lt h.blk
theorem RZ.keep {w w' : World} {R g n c I : Nat} {T : List Tk} {E D fa fc : Int} (h : RZ w R g T n c I E D fa fc) (hb : Below w.heap.size w w') : RZ w' R g T n c I E D fa fc :=
  ⟨(hb.block _ h.lt).trans h.blk, h.hn, Nat.lt_of_lt_of_le h.lg hb.size, h.ne, fun i hi => (h.tok i hi).below hb h.lg⟩
/-- Another state, whose block is known. -/
theorem RZ.next {w w' : World} {R g n c I : Nat} {T : List Tk} {E D fa fc : Int} (h : RZ w R g T n c I E D fa fc) (F : Fr (fun k => k = R) w w') {I' : Nat} {D' fa' fc' : Int}
    (hb : w'.heap[R]? = some (.cells #[.slice (some ⟨g, 0, none⟩) n c, .int .i64 I', .int .i64 E, .int .i64 D', .int .i64 fa', .int .i64 fc'] 70 (0, 0))) : RZ w' R g T n c I' E D' fa' fc' :=
  ⟨hb, h.hn, Nat.lt_of_lt_of_le h.lg F.size, h.ne, fun i hi => cells4_keep (h.tok i hi) (F.block g h.lg h.ne)⟩
theorem idxTo (b len c k : Nat) (h1 : k < len) (w : World) : (Instr.indexAt 57 (.slice (some ⟨b, 0, none⟩) len c) (.int .i64 (k : Int))).run Tryd.prog w = .ok (.pointer (some ⟨b, k * 4, none⟩)) w := by
  have e := WideShapes.add_plain b 0 (k * 4)
  have h0 : (0 : Int) ≤ (k : Int) ∧ (k : Int) < (len : Int) := by omega
  go_simp
theorem RZ.c0 {w : World} {R g n c I : Nat} {T : List Tk} {E D fa fc : Int} (h : RZ w R g T n c I E D fa fc) : w.cell? ⟨R, 0, none⟩ = some (.slice (some ⟨g, 0, none⟩) n c) ∧ w.cell? ⟨R, 1, none⟩ = some (.int .i64 I) ∧ w.cell? ⟨R, 2, none⟩ = some (.int .i64 E) ∧ w.cell? ⟨R, 3, none⟩ = some (.int .i64 D) ∧ w.cell? ⟨R, 4, none⟩ = some (.int .i64 fa) ∧ w.cell? ⟨R, 5, none⟩ = some (.int .i64 fc) := by
  refine ⟨?_, ?_, ?_, ?_, ?_, ?_⟩ <;> · rw [cell_of_row _ _ _ _ _ _ h.blk]; rfl
/-- Where the next token is. -/
def placeR (T : List Tk) (I : Nat) (E : Int) : Int := if I < T.length then (T.getD I default).a else E
set_option maxRecDepth 100000 in
set_option maxHeartbeats 1600000 in
theorem place_any (w : World) (R g n c I : Nat) (T : List Tk) (E D fa fc : Int) (h : RZ w R g T n c I E D fa fc) : Calls Tryd.prog 69 #[.pointer (some ⟨R, 0, none⟩)] w fun e w' => e = .returned (.int .i64 (placeR T I E)) ∧ (∃ j, w' = w.drewN j) := by
  obtain ⟨c0, c1, c2, -⟩ := h.c0
  have u0 := fun j => (show (w.drewN j).cell? ⟨R, 0, none⟩ = some (.slice (some ⟨g, 0, none⟩) n c) from c0)
  have u1 := fun j => (show (w.drewN j).cell? ⟨R, 1, none⟩ = some (.int .i64 I) from c1)
  have u2 := fun j => (show (w.drewN j).cell? ⟨R, 2, none⟩ = some (.int .i64 E) from c2)
  by_cases hlt : I < n
  · have hp := Lib.hid (show placeR T I E = (T.getD I default).a by unfold placeR; rw [if_pos (by rw [h.hn]; exact hlt)])
    obtain ⟨t, ht⟩ : ∃ t, t = T.getD I default := ⟨_, rfl⟩
    rw [← ht] at hp
    have k1 := (h.tok I hlt).2.1
    rw [← ht] at k1
    have v1 := fun j => (show (w.drewN j).cell? ⟨g, I * 4 + 1, none⟩ = some (.int .i64 t.a) from k1)
    have q1 := idxTo g n c I hlt
    have hd : decide ((I : Int) < (n : Int)) = true := by simp; omega
    clear h c0 c1 c2 k1 ht
    go_enter Tryd.func69, Tryd.ntmps69
    go_wp2
    go_quiet (fail)
    go_wp2
    go_quiet (fail)
    go_wp2
    go_ret
    exact ⟨by rw [hp.out]; rfl, by first | exact ⟨_, rfl⟩ | exact ⟨_, World.drewN_drewN _ _ _⟩⟩
  · have hp := Lib.hid (show placeR T I E = E by unfold placeR; rw [if_neg (by rw [h.hn]; exact hlt)])
    have hd : decide ((I : Int) < (n : Int)) = false := by simp; omega
    clear h c0 c1 c2
    go_enter Tryd.func69, Tryd.ntmps69
    go_wp2
    go_quiet (fail)
    go_wp2
    go_ret
    exact ⟨by rw [hp.out]; rfl, by first | exact ⟨_, rfl⟩ | exact ⟨0, rfl⟩⟩
theorem tl_bs (s : List UInt8) : (bs s).toList = s := eq_of_beq (cmpYes rfl)
set_option maxRecDepth 100000 in
set_option maxHeartbeats 3200000 in
theorem is_any (w : World) (R g n c I : Nat) (T : List Tk) (E D fa fc : Int) (h : RZ w R g T n c I E D fa fc) (s : List UInt8) (b : Bool) (hk : I < n → (T.getD I default).w = s → (T.getD I default).k = 1 ∨ (T.getD I default).k = 3) (hb : b = decide (I < n ∧ (T.getD I default).w = s)) :
    Calls Tryd.prog 48 #[.pointer (some ⟨R, 0, none⟩), .string (bs s)] w fun e w' => e = .returned (.bool b) ∧ (∃ j, w' = w.drewN j) := by
  obtain ⟨c0, c1, c2, -⟩ := h.c0
  have u0 := fun j => (show (w.drewN j).cell? ⟨R, 0, none⟩ = some (.slice (some ⟨g, 0, none⟩) n c) from c0)
  have u1 := fun j => (show (w.drewN j).cell? ⟨R, 1, none⟩ = some (.int .i64 I) from c1)
  by_cases hlt : I < n
  · obtain ⟨t, ht⟩ : ∃ t, t = T.getD I default := ⟨_, rfl⟩
    obtain ⟨k0, _, k2, _⟩ := h.tok I hlt
    rw [← ht] at k0 k2 hk hb
    have v0 := fun j => (show (w.drewN j).cell? ⟨g, I * 4, none⟩ = some (.int .i64 t.k) from k0)
    have v2 := fun j => (show (w.drewN j).cell? ⟨g, I * 4 + 2, none⟩ = some (.string (bs t.w)) from k2)
    have q1 := idxTo g n c I hlt
    have hd : decide ((I : Int) < (n : Int)) = true := by simp; omega
    by_cases hs : t.w = s
    · have hbt := Lib.hid (show b = true by rw [hb, decide_eq_true ⟨hlt, hs⟩])
      have hc : ((bs t.w).toList == (bs s).toList) = true := cmpYes (by rw [tl_bs, hs])
      have hk2 := hk hlt hs
      clear h c0 c1 c2 k0 k2 ht hk hb hs
      by_cases h1 : t.k = 1
      · have hk1 : (t.k == 1) = true := by rw [h1]; rfl
        clear hk2 h1
        go_enter Tryd.func48, Tryd.ntmps48
        go_wp2
        go_quiet (fail)
        go_wp2
        go_ret
        exact ⟨by rw [hbt.out]; rfl, by first | exact ⟨_, rfl⟩ | exact ⟨0, rfl⟩⟩
      · have hk1 : (t.k == 1) = false := by simpa using h1
        have hk3 : (t.k == 3) = true := by simp; omega
        clear hk2 h1
        go_enter Tryd.func48, Tryd.ntmps48
        go_wp2
        go_quiet (fail)
        go_wp2
        go_ret
        exact ⟨by rw [hbt.out]; rfl, by first | exact ⟨_, rfl⟩ | exact ⟨0, rfl⟩⟩
    · have hbt := Lib.hid (show b = false by rw [hb, decide_eq_false (fun h => hs h.2)])
      have hc : ((bs t.w).toList == (bs s).toList) = false := cmpNo (by rw [tl_bs]; exact hs)
      clear h c0 c1 c2 k0 k2 ht hk hb hs
      go_enter Tryd.func48, Tryd.ntmps48
      go_wp2
      go_quiet (fail)
      go_wp2
      go_ret
      exact ⟨by rw [hbt.out]; rfl, by first | exact ⟨_, rfl⟩ | exact ⟨0, rfl⟩⟩
  · have hbt := Lib.hid (show b = false by rw [hb, decide_eq_false (fun h => hlt h.1)])
    have hd : decide ((I : Int) < (n : Int)) = false := by simp; omega
    clear h c0 c1 c2 hk hb
    go_enter Tryd.func48, Tryd.ntmps48
    go_wp2
    go_quiet (fail)
    go_wp2
    go_ret
    exact ⟨by rw [hbt.out]; rfl, by first | exact ⟨_, rfl⟩ | exact ⟨0, rfl⟩⟩
set_option maxRecDepth 100000 in
set_option maxHeartbeats 3200000 in
theorem verb04_any (w : World) (R g n c I : Nat) (T : List Tk) (E D fa fc : Int) (h : RZ w R g T n c I E D fa fc) (b : Bool) (hk : I < n → (T.getD I default).k = 2 → vb (T.getD I default).w = false) (hb : b = decide (I < n ∧ vb (T.getD I default).w = true)) :
    Calls Tryd.prog 82 #[.pointer (some ⟨R, 0, none⟩)] w fun e w' => e = .returned (.bool b) ∧ (∃ j, w' = w.drewN j) := by
  obtain ⟨c0, c1, c2, -⟩ := h.c0
  have u0 := fun j => (show (w.drewN j).cell? ⟨R, 0, none⟩ = some (.slice (some ⟨g, 0, none⟩) n c) from c0)
  have u1 := fun j => (show (w.drewN j).cell? ⟨R, 1, none⟩ = some (.int .i64 I) from c1)
  by_cases hlt : I < n
  · obtain ⟨t, ht⟩ : ∃ t, t = T.getD I default := ⟨_, rfl⟩
    obtain ⟨k0, _, k2, _⟩ := h.tok I hlt
    rw [← ht] at k0 k2 hk hb
    have v0 := fun j => (show (w.drewN j).cell? ⟨g, I * 4, none⟩ = some (.int .i64 t.k) from k0)
    have v2 := fun j => (show (w.drewN j).cell? ⟨g, I * 4 + 2, none⟩ = some (.string (bs t.w)) from k2)
    have q1 := idxTo g n c I hlt
    have hd : decide ((I : Int) < (n : Int)) = true := by simp; omega
    by_cases h2 : t.k = 2
    · have hbt := Lib.hid (show b = false by rw [hb, hk hlt h2]; simp)
      have hk2 : (t.k == 2) = true := by rw [h2]; rfl
      have hk2' : (t.k != 2) = false := by rw [h2]; rfl
      clear h c0 c1 c2 k0 k2 ht hk hb h2
      go_enter Tryd.func82, Tryd.ntmps82
      go_wp2
      go_quiet (fail)
      go_wp2
      go_ret
      exact ⟨by rw [hbt.out]; rfl, by first | exact ⟨_, rfl⟩ | exact ⟨0, rfl⟩⟩
    · have hbt := Lib.hid (show b = vb t.w by rw [hb]; cases hv : vb t.w <;> simp [hlt])
      have hk2 : (t.k == 2) = false := by simpa using h2
      have hk2' : (t.k != 2) = true := by simpa using h2
      have HA := Lib.hid (fun W => (rany_any t.w W).mono (R' := fun e w' => e = .returned (.bool (vb t.w)) ∧ ∃ j, w' = W.drewN j) fun e w' h => ⟨h.1, 0, h.2⟩)
      clear h c0 c1 c2 k0 k2 ht hk hb h2
      go_enter Tryd.func82, Tryd.ntmps82
      go_wp2
      go_quiet (first | (go_at_call 37; exact Calls.quiet_of (HA.out _)))
      go_wp2
      go_ret
      exact ⟨by rw [hbt.out]; rfl, by first | exact ⟨_, rfl⟩ | exact ⟨0, rfl⟩⟩
  · have hbt := Lib.hid (show b = false by rw [hb, decide_eq_false (fun h => hlt h.1)])
    have hd : decide ((I : Int) < (n : Int)) = false := by simp; omega
    clear h c0 c1 c2 hk hb
    go_enter Tryd.func82, Tryd.ntmps82
    go_wp2
    go_quiet (fail)
    go_wp2
    go_ret
    exact ⟨by rw [hbt.out]; rfl, by first | exact ⟨_, rfl⟩ | exact ⟨0, rfl⟩⟩
end Go.Proofs.YthdognmppbckbaaDoor
/- The document's Reader: no, phrase. -/
namespace Go.Proofs.YthdognmppbckbaaDoor
open Go.RowKit
set_option maxRecDepth 100000 in
set_option maxHeartbeats 1600000 in
theorem no_any (w : World) (R g n c I : Nat) (T : List Tk) (E D fa fc x : Int) (h : RZ w R g T n c I E D fa fc) : Calls Tryd.prog 47 #[.pointer (some ⟨R, 0, none⟩), .int .i64 x] w fun e w' => e = .returned (.slice none 0 0) ∧ RZ w' R g T n c I E D (placeR T I E) x ∧ Fr (fun k => k = R) w w' := by
  have H := Lib.hid h
  obtain ⟨_, _, _, _, c4, c5⟩ := h.c0
  have f4 : w.frozen? ⟨R, 4, none⟩ = false := frozen_of_row _ _ _ _ _ h.blk
  have f5 : w.frozen? ⟨R, 5, none⟩ = false := frozen_of_row _ _ _ _ _ h.blk
  obtain ⟨p, hp⟩ : ∃ p, p = placeR T I E := ⟨_, rfl⟩
  have HP := Lib.hid (place_any w R g n c I T E D fa fc h)
  rw [← hp] at HP ⊢
  clear h hp
  go_enter Tryd.func47, Tryd.ntmps47
  go_wp2_with (go_at_call 69; refine (HP.out).mono ?_; rintro e w1 ⟨rfl, j, rfl⟩; have k4 := (show (w.drewN j).cell? ⟨R, 4, none⟩ = some (.int .i64 fa) from c4); have k5 := (show (w.drewN j).cell? ⟨R, 5, none⟩ = some (.int .i64 fc) from c5); have e4 := (show (w.drewN j).frozen? ⟨R, 4, none⟩ = false from f4); have e5 := (show (w.drewN j).frozen? ⟨R, 5, none⟩ = false from f5))
  go_ret
  have F : Fr (fun k => k = R) w (((w.drewN j).setCell ⟨R, 4, none⟩ (.int .i64 p)).setCell ⟨R, 5, none⟩ (.int .i64 x)) := (((Fr.refl (fun k => k = R) w).drewN j).set (.inl rfl) 4 _).set (.inl rfl) 5 _
  exact ⟨rfl, H.out.next F (by rw [heap_setCell_same _ _ _ _ _ _ (heap_setCell_same _ _ _ _ _ _ (show (w.drewN j).heap[R]? = _ from H.out.blk))]; rfl), F⟩
end Go.Proofs.YthdognmppbckbaaDoor
/- The document's Reader: phrase. -/
namespace Go.Proofs.YthdognmppbckbaaDoor
open Go.RowKit
set_option linter.unusedVariables false
/-- Within phrase: the reader, the item x and the result, in blocks of one's own. -/
structure PZ (w W : World) (R g : Nat) (T : List Tk) (n c I : Nat) (E D how pl fn : Int) : Prop where
  rz : RZ W R g T n c I E D 0 0
  it : W.heap[w.heap.size + 1]? = some (.cells #[.int .i64 how, .int .i64 pl, .int .u8 fn, .string ⟨#[]⟩, .slice none 0 0] 52 (0, 0))
  res : W.heap[w.heap.size]? = some (.cells #[.int .i64 0, .int .i64 0, .int .u8 0, .string ⟨#[]⟩, .slice none 0 0] 52 (0, 0))
  fr : Fr (fun k => k = R) w W
  lt : R < w.heap.size
  lg : g < w.heap.size
theorem RZ.far {W : World} {R g n c I : Nat} {T : List Tk} {E D fa fc : Int} (h : RZ W R g T n c I E D fa fc) {b : Nat} (h1 : ¬ R = b) (h2 : ¬ g = b) (o : Nat) (v : Value) : RZ (W.setCell ⟨b, o, none⟩ v) R g T n c I E D fa fc :=
  ⟨(Fr.set.heap_set_other h1).trans h.blk, h.hn, Nat.lt_of_lt_of_le h.lg ((Fr.refl (fun k => k = b) W).set (.inl rfl) o v).size, h.ne, fun i hi => cells4_keep (h.tok i hi) (Fr.set.heap_set_other h2)⟩
theorem PZ.start {w : World} {R g n c I : Nat} {T : List Tk} {E D : Int} (h : RZ w R g T n c I E D 0 0) (pl : Int) : PZ w (((w.alloc (.cells #[.int .i64 0, .int .i64 0, .int .u8 0, .string ⟨#[]⟩, .slice none 0 0] 52)).alloc (.cells #[.int .i64 3, .int .i64 pl, .int .u8 0, .string ⟨#[]⟩, .slice none 0 0] 52)).drew) R g T n c I E D 3 pl 0 := by
  have hb : Below w.heap.size w (((w.alloc (.cells #[.int .i64 0, .int .i64 0, .int .u8 0, .string ⟨#[]⟩, .slice none 0 0] 52)).alloc (.cells #[.int .i64 3, .int .i64 pl, .int .u8 0, .string ⟨#[]⟩, .slice none 0 0] 52)).drewN 1) := below_drewN (((Below.refl _ _).alloc (Nat.le_refl _) _).alloc (by simp) _) (by simp; omega)
  exact ⟨h.keep hb, box2 w _ _, box1 w _ _, below_fr hb _, h.lt, h.lg⟩
theorem PZ.drewN {w W : World} {R g n c I : Nat} {T : List Tk} {E D how pl fn : Int} (h : PZ w W R g T n c I E D how pl fn) (j : Nat) : PZ w (W.drewN j) R g T n c I E D how pl fn :=
  ⟨h.rz.keep (below_drewN (Below.refl _ _) (Nat.le_refl _)), h.it, h.res, h.fr.drewN j, h.lt, h.lg⟩
theorem PZ.setI {w W : World} {R g n c I : Nat} {T : List Tk} {E D how pl fn : Int} (h : PZ w W R g T n c I E D how pl fn) (I' : Nat) (v : Int) (hv : v = (I' : Int)) : PZ w (W.setCell ⟨R, 1, none⟩ (.int .i64 v)) R g T n c I' E D how pl fn := by
  subst hv
  have hl := h.lt
  refine ⟨h.rz.next ((Fr.refl (fun k => k = R) W).set (.inl rfl) 1 _) (by rw [heap_setCell_same _ _ _ _ _ _ h.rz.blk]; rfl), ?_, ?_, h.fr.set (.inl rfl) 1 _, h.lt, h.lg⟩
  · rw [Fr.set.heap_set_other (by omega)]; exact h.it
  · rw [Fr.set.heap_set_other (by omega)]; exact h.res
theorem PZ.setX {w W : World} {R g n c I : Nat} {T : List Tk} {E D how pl fn : Int} (h : PZ w W R g T n c I E D how pl fn) (o : Nat) (v : Value) (how' fn' : Int) (hc : (#[.int .i64 how, .int .i64 pl, .int .u8 fn, .string ⟨#[]⟩, .slice none 0 0] : Array Value).setIfInBounds o v = #[.int .i64 how', .int .i64 pl, .int .u8 fn', .string ⟨#[]⟩, .slice none 0 0]) : PZ w (W.setCell ⟨w.heap.size + 1, o, none⟩ v) R g T n c I E D how' pl fn' := by
  have hl := h.lt
  have hg := h.lg
  refine ⟨h.rz.far (by omega) (by omega) o v, ?_, ?_, h.fr.set (.inr (by omega)) o v, hl, hg⟩
  · rw [heap_setCell_same _ _ _ _ _ _ h.it, hc]
  · rw [Fr.set.heap_set_other (by omega)]; exact h.res
/-- What a walk reads of it. -/
structure PZc (w W : World) (R g : Nat) (n c I : Nat) (how pl fn : Int) : Prop where
  r0 : W.cell? ⟨R, 0, none⟩ = some (.slice (some ⟨g, 0, none⟩) n c)
  r1 : W.cell? ⟨R, 1, none⟩ = some (.int .i64 I)
  rf : W.frozen? ⟨R, 1, none⟩ = false
  x0 : W.cell? ⟨w.heap.size + 1, 0, none⟩ = some (.int .i64 how)
  x1 : W.cell? ⟨w.heap.size + 1, 1, none⟩ = some (.int .i64 pl)
  x2 : W.cell? ⟨w.heap.size + 1, 2, none⟩ = some (.int .u8 fn)
  x3 : W.cell? ⟨w.heap.size + 1, 3, none⟩ = some (.string ⟨#[]⟩)
  x4 : W.cell? ⟨w.heap.size + 1, 4, none⟩ = some (.slice none 0 0)
  xf : ∀ o, W.frozen? ⟨w.heap.size + 1, o, none⟩ = false
  y : ∀ o, o < 5 → ∃ v, W.cell? ⟨w.heap.size, o, none⟩ = some v
  yf : ∀ o, W.frozen? ⟨w.heap.size, o, none⟩ = false
  lt : R < w.heap.size
theorem PZ.cells {w W : World} {R g n c I : Nat} {T : List Tk} {E D how pl fn : Int} (h : PZ w W R g T n c I E D how pl fn) : PZc w W R g n c I how pl fn := by
  obtain ⟨c0, c1, -⟩ := h.rz.c0
  refine ⟨c0, c1, frozen_of_row _ _ _ _ _ h.rz.blk, ?_, ?_, ?_, ?_, ?_, fun o => frozen_of_row _ _ _ _ _ h.it, fun o ho => ?_, fun o => frozen_of_row _ _ _ _ _ h.res, h.lt⟩
  · rw [cell_of_row _ _ _ _ _ _ h.it]; rfl
  · rw [cell_of_row _ _ _ _ _ _ h.it]; rfl
  · rw [cell_of_row _ _ _ _ _ _ h.it]; rfl
  · rw [cell_of_row _ _ _ _ _ _ h.it]; rfl
  · rw [cell_of_row _ _ _ _ _ _ h.it]; rfl
  · rw [cell_of_row _ _ _ _ _ _ h.res]
    match o, ho with
    | 0, _ => exact ⟨_, rfl⟩
    | 1, _ => exact ⟨_, rfl⟩
    | 2, _ => exact ⟨_, rfl⟩
    | 3, _ => exact ⟨_, rfl⟩
    | 4, _ => exact ⟨_, rfl⟩
end Go.Proofs.YthdognmppbckbaaDoor
/- The document's Reader: phrase, where no mark stands. -/
namespace Go.Proofs.YthdognmppbckbaaDoor
open Go.RowKit
set_option linter.unusedVariables false
def phV (h pl fn : Int) : Value := .agg #[.int .i64 h, .int .i64 pl, .int .u8 fn, .string ⟨#[]⟩, .slice none 0 0]
set_option maxRecDepth 100000 in
set_option maxHeartbeats 800000 in
theorem phrase_plain1 (w : World) (R g n c I : Nat) (T : List Tk) (E D : Int) (h : RZ w R g T n c I E D 0 0) (hlg : g < w.heap.size) (hI : I < n) (hn7 : n ≤ 1000000) (hm : ¬ (I + 1 < n ∧ ((T.getD (I + 1) default).w = [47] ∨ (T.getD (I + 1) default).w = [92] ∨ (T.getD (I + 1) default).w = [46]))) (f : Int) (hf : f = verbR (T.getD I default).w false) (hf0 : (f != 0) = true) :
    Calls Tryd.prog 83 #[.pointer (some ⟨R, 0, none⟩), .bool false] w fun e w' => e = .returned (phV 3 (T.getD I default).a f) ∧ RZ w' R g T n c (I + 1) E D 0 0 ∧ Fr (fun k => k = R) w w' := by
  obtain ⟨t, ht⟩ : ∃ t, t = T.getD I default := ⟨_, rfl⟩
  have H := Lib.hid h
  obtain ⟨_, k1, k2, _⟩ := h.tok I hI
  obtain ⟨c0, c1, -⟩ := h.c0
  have hlt := h.lt
  rw [← ht] at k1 k2 hf ⊢
  have HK2 := Lib.hid k2
  have q1 := idxTo g n c I hI
  have HVb := Lib.hid (fun W => rverb_any t.w false W)
  rw [← hf] at HVb
  have HIS := Lib.hid (fun (W : World) (h : RZ W R g T n c (I + 1) E D 0 0) (s : List UInt8) (hs : s = [47] ∨ s = [92] ∨ s = [46]) => is_any W R g n c (I + 1) T E D 0 0 h s false (fun a b => absurd ⟨a, by rw [b]; exact hs⟩ hm) (by symm; rw [decide_eq_false_iff_not]; exact fun a => hm ⟨a.1, by rw [a.2]; exact hs⟩))
  have HIS47 := Lib.hid (fun (W : World) (h : RZ W R g T n c (I + 1) E D 0 0) => (show Calls Tryd.prog 48 #[.pointer (some ⟨R, 0, none⟩), .string ⟨#[47]⟩] W (fun e w' => e = .returned (.bool false) ∧ ∃ j, w' = W.drewN j) from HIS.out W h [47] (by simp)))
  have HIS92 := Lib.hid (fun (W : World) (h : RZ W R g T n c (I + 1) E D 0 0) => (show Calls Tryd.prog 48 #[.pointer (some ⟨R, 0, none⟩), .string ⟨#[92]⟩] W (fun e w' => e = .returned (.bool false) ∧ ∃ j, w' = W.drewN j) from HIS.out W h [92] (by simp)))
  have HIS46 := Lib.hid (fun (W : World) (h : RZ W R g T n c (I + 1) E D 0 0) => (show Calls Tryd.prog 48 #[.pointer (some ⟨R, 0, none⟩), .string ⟨#[46]⟩] W (fun e w' => e = .returned (.bool false) ∧ ∃ j, w' = W.drewN j) from HIS.out W h [46] (by simp)))
  have Z0 := Lib.hid (PZ.start h t.a)
  have HT := Lib.hid (fun (W : World) (hF : Fr (fun k => k = R) w W) => show W.cell? ⟨g, I * 4 + 2, none⟩ = some (.string (bs t.w)) from (World.cell?_of_block (a := ⟨g, I * 4 + 2, none⟩) (hF.block g hlg h.ne)).trans k2)
  clear h hf hm ht k2
  go_enter Tryd.func83, Tryd.ntmps83
  go_wp2
  go_region
  obtain ⟨W1, hW1⟩ : ∃ W1, W1 = ((w.alloc (.cells #[.int .i64 0, .int .i64 0, .int .u8 0, .string ⟨#[]⟩, .slice none 0 0] 52)).alloc (.cells #[.int .i64 3, .int .i64 t.a, .int .u8 0, .string ⟨#[]⟩, .slice none 0 0] 52)).drew := ⟨_, rfl⟩
  rw [← hW1]
  have Z1 := Z0.out
  rw [← hW1] at Z1
  have HZ1 := Lib.hid Z1
  have cz := Z1.cells
  clear hW1 c0 c1 k1 Z0 Z1
  have u0 := fun j => (show (W1.drewN j).cell? ⟨R, 0, none⟩ = some (.slice (some ⟨g, 0, none⟩) n c) from cz.r0)
  have u1 := fun j => (show (W1.drewN j).cell? ⟨R, 1, none⟩ = some (.int .i64 I) from cz.r1)
  have u3 := fun j => (show (W1.drewN j).frozen? ⟨R, 1, none⟩ = false from cz.rf)
  have u2 := fun j => (show (W1.drewN j).cell? ⟨g, I * 4 + 2, none⟩ = some (.string (bs t.w)) from HT.out W1 HZ1.out.fr)
  clear cz
  go_wp2
  go_quiet (fail)
  go_wp2_with fail
  refine (HVb.out _).mono ?_
  rintro e w5 ⟨rfl, e5⟩
  have Z2 := Lib.hid (show PZ w w5 R g T n c (I + 1) E D 3 t.a 0 by rw [e5]; exact (HZ1.out.drewN nq).setI (I + 1) _ rfl)
  clear e5 u0 u1 u2 u3
  go_wp2_with fail
  refine (HIS47.out _ Z2.out.rz).mono ?_
  rintro e w6 ⟨rfl, jw6, ew6⟩
  have Z3 := Lib.hid (show PZ w w6 R g T n c (I + 1) E D 3 t.a 0 by rw [ew6]; exact Z2.out.drewN jw6)
  clear ew6
  go_wp2_with fail
  refine (HIS92.out _ Z3.out.rz).mono ?_
  rintro e w7 ⟨rfl, jw7, ew7⟩
  have Z4 := Lib.hid (show PZ w w7 R g T n c (I + 1) E D 3 t.a 0 by rw [ew7]; exact Z3.out.drewN jw7)
  clear ew7
  go_wp2_with fail
  refine (HIS46.out _ Z4.out.rz).mono ?_
  rintro e w8 ⟨rfl, j8, e8⟩
  have Z5 := Lib.hid (show PZ w w8 R g T n c (I + 1) E D 3 t.a 0 by rw [e8]; exact Z4.out.drewN j8)
  have cz := Z5.out.cells
  obtain ⟨-, -, -, x0, x1, x2, x3, x4, xf, y, yf, -⟩ := cz
  have xf2 := xf 2
  have yf0 := yf 0
  have yf1 := yf 1
  have yf2 := yf 2
  have yf3 := yf 3
  have yf4 := yf 4
  obtain ⟨v0, y0⟩ := y 0 (by omega)
  obtain ⟨v1, y1⟩ := y 1 (by omega)
  obtain ⟨v2, y2⟩ := y 2 (by omega)
  obtain ⟨v3, y3⟩ := y 3 (by omega)
  obtain ⟨v4, y4⟩ := y 4 (by omega)
  clear e8 xf y yf
  go_wp2
  have hR := Z5.out.lt
  have a1 : ¬ R = w.heap.size + 1 := by omega
  have a2 : ¬ g = w.heap.size + 1 := by omega
  have a3 : ¬ R = w.heap.size := by omega
  have a4 : ¬ g = w.heap.size := by omega
  have hfin := (And.intro ((((((Z5.out.rz.far a1 a2 2 (.int .u8 f)).far a3 a4 0 (.int .i64 3)).far a3 a4 1 (.int .i64 t.a)).far a3 a4 2 (.int .u8 f)).far a3 a4 3 (.string ⟨#[]⟩)).far a3 a4 4 (.slice none 0 0))
    ((((((Z5.out.fr.set (b := w.heap.size + 1) (.inr (by omega)) 2 (.int .u8 f)).set (b := w.heap.size) (.inr (Nat.le_refl _)) 0 (.int .i64 3)).set (b := w.heap.size) (.inr (Nat.le_refl _)) 1 (.int .i64 t.a)).set (b := w.heap.size) (.inr (Nat.le_refl _)) 2 (.int .u8 f)).set (b := w.heap.size) (.inr (Nat.le_refl _)) 3 (.string ⟨#[]⟩)).set (b := w.heap.size) (.inr (Nat.le_refl _)) 4 (.slice none 0 0)))
  refine bodyPost_ret (v := phV 3 t.a f) (by unfold phV; simp [results, Tryd.results83, go_sem, y0, y1, y2, y3, y4]) rfl ⟨rfl, hfin⟩
end Go.Proofs.YthdognmppbckbaaDoor
/- The document's Reader: phrase, where no mark stands, of two. -/
namespace Go.Proofs.YthdognmppbckbaaDoor
open Go.RowKit
set_option linter.unusedVariables false
set_option maxRecDepth 100000 in
set_option maxHeartbeats 800000 in
theorem phrase_plain2 (w : World) (R g n c I : Nat) (T : List Tk) (E D : Int) (h : RZ w R g T n c I E D 0 0) (hlg : g < w.heap.size) (hI : I < n) (hn7 : n ≤ 1000000) (hm : ¬ (I + 1 < n ∧ ((T.getD (I + 1) default).w = [47] ∨ (T.getD (I + 1) default).w = [92] ∨ (T.getD (I + 1) default).w = [46]))) (f : Int) (hf : f = verbR (T.getD I default).w true) (hf0 : (f != 0) = true) :
    Calls Tryd.prog 83 #[.pointer (some ⟨R, 0, none⟩), .bool true] w fun e w' => e = .returned (phV 4 (T.getD I default).a f) ∧ RZ w' R g T n c (I + 1) E D 0 0 ∧ Fr (fun k => k = R) w w' := by
  obtain ⟨t, ht⟩ : ∃ t, t = T.getD I default := ⟨_, rfl⟩
  have H := Lib.hid h
  obtain ⟨_, k1, k2, _⟩ := h.tok I hI
  obtain ⟨c0, c1, -⟩ := h.c0
  have hlt := h.lt
  rw [← ht] at k1 k2 hf ⊢
  have HK2 := Lib.hid k2
  have q1 := idxTo g n c I hI
  have HVb := Lib.hid (fun W => rverb_any t.w true W)
  rw [← hf] at HVb
  have HIS := Lib.hid (fun (W : World) (h : RZ W R g T n c (I + 1) E D 0 0) (s : List UInt8) (hs : s = [47] ∨ s = [92] ∨ s = [46]) => is_any W R g n c (I + 1) T E D 0 0 h s false (fun a b => absurd ⟨a, by rw [b]; exact hs⟩ hm) (by symm; rw [decide_eq_false_iff_not]; exact fun a => hm ⟨a.1, by rw [a.2]; exact hs⟩))
  have HIS47 := Lib.hid (fun (W : World) (h : RZ W R g T n c (I + 1) E D 0 0) => (show Calls Tryd.prog 48 #[.pointer (some ⟨R, 0, none⟩), .string ⟨#[47]⟩] W (fun e w' => e = .returned (.bool false) ∧ ∃ j, w' = W.drewN j) from HIS.out W h [47] (by simp)))
  have HIS92 := Lib.hid (fun (W : World) (h : RZ W R g T n c (I + 1) E D 0 0) => (show Calls Tryd.prog 48 #[.pointer (some ⟨R, 0, none⟩), .string ⟨#[92]⟩] W (fun e w' => e = .returned (.bool false) ∧ ∃ j, w' = W.drewN j) from HIS.out W h [92] (by simp)))
  have HIS46 := Lib.hid (fun (W : World) (h : RZ W R g T n c (I + 1) E D 0 0) => (show Calls Tryd.prog 48 #[.pointer (some ⟨R, 0, none⟩), .string ⟨#[46]⟩] W (fun e w' => e = .returned (.bool false) ∧ ∃ j, w' = W.drewN j) from HIS.out W h [46] (by simp)))
  have Z0 := Lib.hid (PZ.start h t.a)
  have HT := Lib.hid (fun (W : World) (hF : Fr (fun k => k = R) w W) => show W.cell? ⟨g, I * 4 + 2, none⟩ = some (.string (bs t.w)) from (World.cell?_of_block (a := ⟨g, I * 4 + 2, none⟩) (hF.block g hlg h.ne)).trans k2)
  clear h hf hm ht k2
  go_enter Tryd.func83, Tryd.ntmps83
  go_wp2
  go_region
  obtain ⟨W1, hW1⟩ : ∃ W1, W1 = ((w.alloc (.cells #[.int .i64 0, .int .i64 0, .int .u8 0, .string ⟨#[]⟩, .slice none 0 0] 52)).alloc (.cells #[.int .i64 3, .int .i64 t.a, .int .u8 0, .string ⟨#[]⟩, .slice none 0 0] 52)).drew := ⟨_, rfl⟩
  rw [← hW1]
  have Z1 := Z0.out
  rw [← hW1] at Z1
  have HX1 := Lib.hid Z1
  have w0 := Z1.cells.x0
  have wf := Z1.cells.xf 0
  clear hW1 c0 c1 k1 Z0 Z1
  go_wp2
  obtain ⟨W3, hW3⟩ : ∃ W3, W3 = W1.setCell ⟨w.heap.size + 1, 0, none⟩ (.int .i64 4) := ⟨_, rfl⟩
  rw [← hW3]
  have Z1 : PZ w W3 R g T n c I E D 4 t.a 0 := by rw [hW3]; exact HX1.out.setX 0 (.int .i64 4) 4 0 rfl
  have HZ1 := Lib.hid Z1
  have cz := Z1.cells
  clear hW3 w0 wf HX1 Z1
  have u0 := fun j => (show (W3.drewN j).cell? ⟨R, 0, none⟩ = some (.slice (some ⟨g, 0, none⟩) n c) from cz.r0)
  have u1 := fun j => (show (W3.drewN j).cell? ⟨R, 1, none⟩ = some (.int .i64 I) from cz.r1)
  have u3 := fun j => (show (W3.drewN j).frozen? ⟨R, 1, none⟩ = false from cz.rf)
  have u2 := fun j => (show (W3.drewN j).cell? ⟨g, I * 4 + 2, none⟩ = some (.string (bs t.w)) from HT.out W3 HZ1.out.fr)
  clear cz
  go_wp2
  go_quiet (fail)
  go_wp2_with fail
  refine (HVb.out _).mono ?_
  rintro e w5 ⟨rfl, e5⟩
  have Z2 := Lib.hid (show PZ w w5 R g T n c (I + 1) E D 4 t.a 0 by rw [e5]; exact (HZ1.out.drewN nq).setI (I + 1) _ rfl)
  clear e5 u0 u1 u2 u3
  go_wp2_with fail
  refine (HIS47.out _ Z2.out.rz).mono ?_
  rintro e w6 ⟨rfl, jw6, ew6⟩
  have Z3 := Lib.hid (show PZ w w6 R g T n c (I + 1) E D 4 t.a 0 by rw [ew6]; exact Z2.out.drewN jw6)
  clear ew6
  go_wp2_with fail
  refine (HIS92.out _ Z3.out.rz).mono ?_
  rintro e w7 ⟨rfl, jw7, ew7⟩
  have Z4 := Lib.hid (show PZ w w7 R g T n c (I + 1) E D 4 t.a 0 by rw [ew7]; exact Z3.out.drewN jw7)
  clear ew7
  go_wp2_with fail
  refine (HIS46.out _ Z4.out.rz).mono ?_
  rintro e w8 ⟨rfl, j8, e8⟩
  have Z5 := Lib.hid (show PZ w w8 R g T n c (I + 1) E D 4 t.a 0 by rw [e8]; exact Z4.out.drewN j8)
  have cz := Z5.out.cells
  obtain ⟨-, -, -, x0, x1, x2, x3, x4, xf, y, yf, -⟩ := cz
  have xf2 := xf 2
  have yf0 := yf 0
  have yf1 := yf 1
  have yf2 := yf 2
  have yf3 := yf 3
  have yf4 := yf 4
  obtain ⟨v0, y0⟩ := y 0 (by omega)
  obtain ⟨v1, y1⟩ := y 1 (by omega)
  obtain ⟨v2, y2⟩ := y 2 (by omega)
  obtain ⟨v3, y3⟩ := y 3 (by omega)
  obtain ⟨v4, y4⟩ := y 4 (by omega)
  clear e8 xf y yf
  go_wp2
  have hR := Z5.out.lt
  have a1 : ¬ R = w.heap.size + 1 := by omega
  have a2 : ¬ g = w.heap.size + 1 := by omega
  have a3 : ¬ R = w.heap.size := by omega
  have a4 : ¬ g = w.heap.size := by omega
  have hfin := (And.intro ((((((Z5.out.rz.far a1 a2 2 (.int .u8 f)).far a3 a4 0 (.int .i64 4)).far a3 a4 1 (.int .i64 t.a)).far a3 a4 2 (.int .u8 f)).far a3 a4 3 (.string ⟨#[]⟩)).far a3 a4 4 (.slice none 0 0))
    ((((((Z5.out.fr.set (b := w.heap.size + 1) (.inr (by omega)) 2 (.int .u8 f)).set (b := w.heap.size) (.inr (Nat.le_refl _)) 0 (.int .i64 4)).set (b := w.heap.size) (.inr (Nat.le_refl _)) 1 (.int .i64 t.a)).set (b := w.heap.size) (.inr (Nat.le_refl _)) 2 (.int .u8 f)).set (b := w.heap.size) (.inr (Nat.le_refl _)) 3 (.string ⟨#[]⟩)).set (b := w.heap.size) (.inr (Nat.le_refl _)) 4 (.slice none 0 0)))
  refine bodyPost_ret (v := phV 4 t.a f) (by unfold phV; simp [results, Tryd.results83, go_sem, y0, y1, y2, y3, y4]) rfl ⟨rfl, hfin⟩
end Go.Proofs.YthdognmppbckbaaDoor
/- The document's Reader: phrase, where no mark stands, and no function is found. -/
namespace Go.Proofs.YthdognmppbckbaaDoor
open Go.RowKit
set_option linter.unusedVariables false
set_option maxRecDepth 100000 in
set_option maxHeartbeats 800000 in
theorem phrase_none1 (w : World) (R g n c I : Nat) (T : List Tk) (E D : Int) (h : RZ w R g T n c I E D 0 0) (hlg : g < w.heap.size) (hI : I < n) (hn7 : n ≤ 1000000) (hm : ¬ (I + 1 < n ∧ ((T.getD (I + 1) default).w = [47] ∨ (T.getD (I + 1) default).w = [92] ∨ (T.getD (I + 1) default).w = [46]))) (f : Int) (hf : f = verbR (T.getD I default).w false) (hf0 : (f != 0) = false) :
    Calls Tryd.prog 83 #[.pointer (some ⟨R, 0, none⟩), .bool false] w fun e w' => (∃ x y z, e = .returned (phV x y z)) ∧ RZ w' R g T n c I E D (T.getD I default).a 43 ∧ Fr (fun k => k = R) w w' := by
  obtain ⟨t, ht⟩ : ∃ t, t = T.getD I default := ⟨_, rfl⟩
  have H := Lib.hid h
  obtain ⟨_, k1, k2, _⟩ := h.tok I hI
  obtain ⟨c0, c1, -⟩ := h.c0
  have hlt := h.lt
  have HP := Lib.hid (show placeR T I E = (T.getD I default).a by unfold placeR; rw [if_pos (by rw [h.hn]; exact hI)])
  rw [← ht] at k1 k2 hf HP ⊢
  have HK2 := Lib.hid k2
  have q1 := idxTo g n c I hI
  have HVb := Lib.hid (fun W => rverb_any t.w false W)
  rw [← hf] at HVb
  have HIS := Lib.hid (fun (W : World) (h : RZ W R g T n c (I + 1) E D 0 0) (s : List UInt8) (hs : s = [47] ∨ s = [92] ∨ s = [46]) => is_any W R g n c (I + 1) T E D 0 0 h s false (fun a b => absurd ⟨a, by rw [b]; exact hs⟩ hm) (by symm; rw [decide_eq_false_iff_not]; exact fun a => hm ⟨a.1, by rw [a.2]; exact hs⟩))
  have HIS47 := Lib.hid (fun (W : World) (h : RZ W R g T n c (I + 1) E D 0 0) => (show Calls Tryd.prog 48 #[.pointer (some ⟨R, 0, none⟩), .string ⟨#[47]⟩] W (fun e w' => e = .returned (.bool false) ∧ ∃ j, w' = W.drewN j) from HIS.out W h [47] (by simp)))
  have HIS92 := Lib.hid (fun (W : World) (h : RZ W R g T n c (I + 1) E D 0 0) => (show Calls Tryd.prog 48 #[.pointer (some ⟨R, 0, none⟩), .string ⟨#[92]⟩] W (fun e w' => e = .returned (.bool false) ∧ ∃ j, w' = W.drewN j) from HIS.out W h [92] (by simp)))
  have HIS46 := Lib.hid (fun (W : World) (h : RZ W R g T n c (I + 1) E D 0 0) => (show Calls Tryd.prog 48 #[.pointer (some ⟨R, 0, none⟩), .string ⟨#[46]⟩] W (fun e w' => e = .returned (.bool false) ∧ ∃ j, w' = W.drewN j) from HIS.out W h [46] (by simp)))
  have Z0 := Lib.hid (PZ.start h t.a)
  have HT := Lib.hid (fun (W : World) (hF : Fr (fun k => k = R) w W) => show W.cell? ⟨g, I * 4 + 2, none⟩ = some (.string (bs t.w)) from (World.cell?_of_block (a := ⟨g, I * 4 + 2, none⟩) (hF.block g hlg h.ne)).trans k2)
  clear h hf hm ht k2
  go_enter Tryd.func83, Tryd.ntmps83
  go_wp2
  go_region
  obtain ⟨W1, hW1⟩ : ∃ W1, W1 = ((w.alloc (.cells #[.int .i64 0, .int .i64 0, .int .u8 0, .string ⟨#[]⟩, .slice none 0 0] 52)).alloc (.cells #[.int .i64 3, .int .i64 t.a, .int .u8 0, .string ⟨#[]⟩, .slice none 0 0] 52)).drew := ⟨_, rfl⟩
  rw [← hW1]
  have Z1 := Z0.out
  rw [← hW1] at Z1
  have HZ1 := Lib.hid Z1
  have cz := Z1.cells
  clear hW1 c0 c1 k1 Z0 Z1
  have u0 := fun j => (show (W1.drewN j).cell? ⟨R, 0, none⟩ = some (.slice (some ⟨g, 0, none⟩) n c) from cz.r0)
  have u1 := fun j => (show (W1.drewN j).cell? ⟨R, 1, none⟩ = some (.int .i64 I) from cz.r1)
  have u3 := fun j => (show (W1.drewN j).frozen? ⟨R, 1, none⟩ = false from cz.rf)
  have u2 := fun j => (show (W1.drewN j).cell? ⟨g, I * 4 + 2, none⟩ = some (.string (bs t.w)) from HT.out W1 HZ1.out.fr)
  clear cz
  go_wp2
  go_quiet (fail)
  go_wp2_with fail
  refine (HVb.out _).mono ?_
  rintro e w5 ⟨rfl, e5⟩
  have Z2 := Lib.hid (show PZ w w5 R g T n c (I + 1) E D 3 t.a 0 by rw [e5]; exact (HZ1.out.drewN nq).setI (I + 1) _ rfl)
  clear e5 u0 u1 u2 u3
  go_wp2_with fail
  refine (HIS47.out _ Z2.out.rz).mono ?_
  rintro e w6 ⟨rfl, jw6, ew6⟩
  have Z3 := Lib.hid (show PZ w w6 R g T n c (I + 1) E D 3 t.a 0 by rw [ew6]; exact Z2.out.drewN jw6)
  clear ew6
  go_wp2_with fail
  refine (HIS92.out _ Z3.out.rz).mono ?_
  rintro e w7 ⟨rfl, jw7, ew7⟩
  have Z4 := Lib.hid (show PZ w w7 R g T n c (I + 1) E D 3 t.a 0 by rw [ew7]; exact Z3.out.drewN jw7)
  clear ew7
  go_wp2_with fail
  refine (HIS46.out _ Z4.out.rz).mono ?_
  rintro e w8 ⟨rfl, j8, e8⟩
  have Z5 := Lib.hid (show PZ w w8 R g T n c (I + 1) E D 3 t.a 0 by rw [e8]; exact Z4.out.drewN j8)
  have cz := Z5.out.cells
  have r1 := cz.r1
  have rf := cz.rf
  clear e8 cz
  go_wp2_with fail
  have Z6 := Lib.hid (Z5.out.setI I I rfl)
  refine (no_any _ R g n c I T E D 0 0 43 Z6.out.rz).mono ?_
  rintro e w9 ⟨rfl, z9, f9⟩
  have hR := Z5.out.lt
  have a1 : ¬ R = w.heap.size + 1 := by omega
  have a2 : ¬ g = w.heap.size + 1 := by omega
  have a3 : ¬ R = w.heap.size := by omega
  have a4 : ¬ g = w.heap.size := by omega
  have it9 := (f9.block (w.heap.size + 1) (heap_lt Z6.out.it) (by omega)).trans Z6.out.it
  have re9 := (f9.block w.heap.size (heap_lt Z6.out.res) (by omega)).trans Z6.out.res
  have x0 : w9.cell? ⟨w.heap.size + 1, 0, none⟩ = some (.int .i64 3) := by rw [cell_of_row _ _ _ _ _ _ it9]; rfl
  have x1 : w9.cell? ⟨w.heap.size + 1, 1, none⟩ = some (.int .i64 t.a) := by rw [cell_of_row _ _ _ _ _ _ it9]; rfl
  have x2 : w9.cell? ⟨w.heap.size + 1, 2, none⟩ = some (.int .u8 0) := by rw [cell_of_row _ _ _ _ _ _ it9]; rfl
  have x3 : w9.cell? ⟨w.heap.size + 1, 3, none⟩ = some (.string ⟨#[]⟩) := by rw [cell_of_row _ _ _ _ _ _ it9]; rfl
  have x4 : w9.cell? ⟨w.heap.size + 1, 4, none⟩ = some (.slice none 0 0) := by rw [cell_of_row _ _ _ _ _ _ it9]; rfl
  have xf2 : w9.frozen? ⟨w.heap.size + 1, 2, none⟩ = false := frozen_of_row _ _ _ _ _ it9
  have y0 : w9.cell? ⟨w.heap.size, 0, none⟩ = some (.int .i64 0) := by rw [cell_of_row _ _ _ _ _ _ re9]; rfl
  have y1 : w9.cell? ⟨w.heap.size, 1, none⟩ = some (.int .i64 0) := by rw [cell_of_row _ _ _ _ _ _ re9]; rfl
  have y2 : w9.cell? ⟨w.heap.size, 2, none⟩ = some (.int .u8 0) := by rw [cell_of_row _ _ _ _ _ _ re9]; rfl
  have y3 : w9.cell? ⟨w.heap.size, 3, none⟩ = some (.string ⟨#[]⟩) := by rw [cell_of_row _ _ _ _ _ _ re9]; rfl
  have y4 : w9.cell? ⟨w.heap.size, 4, none⟩ = some (.slice none 0 0) := by rw [cell_of_row _ _ _ _ _ _ re9]; rfl
  have yf0 : w9.frozen? ⟨w.heap.size, 0, none⟩ = false := frozen_of_row _ _ _ _ _ re9
  have yf1 : w9.frozen? ⟨w.heap.size, 1, none⟩ = false := frozen_of_row _ _ _ _ _ re9
  have yf2 : w9.frozen? ⟨w.heap.size, 2, none⟩ = false := frozen_of_row _ _ _ _ _ re9
  have yf3 : w9.frozen? ⟨w.heap.size, 3, none⟩ = false := frozen_of_row _ _ _ _ _ re9
  have yf4 : w9.frozen? ⟨w.heap.size, 4, none⟩ = false := frozen_of_row _ _ _ _ _ re9
  rw [HP.out] at z9
  have F9 : Fr (fun k => k = R) w w9 := Z6.out.fr.trans f9
  have hfin := Lib.hid (And.intro ((((((z9.far a1 a2 2 (.int .u8 f)).far a3 a4 0 (.int .i64 3)).far a3 a4 1 (.int .i64 t.a)).far a3 a4 2 (.int .u8 f)).far a3 a4 3 (.string ⟨#[]⟩)).far a3 a4 4 (.slice none 0 0))
    ((((((F9.set (b := w.heap.size + 1) (.inr (by omega)) 2 (.int .u8 f)).set (b := w.heap.size) (.inr (Nat.le_refl _)) 0 (.int .i64 3)).set (b := w.heap.size) (.inr (Nat.le_refl _)) 1 (.int .i64 t.a)).set (b := w.heap.size) (.inr (Nat.le_refl _)) 2 (.int .u8 f)).set (b := w.heap.size) (.inr (Nat.le_refl _)) 3 (.string ⟨#[]⟩)).set (b := w.heap.size) (.inr (Nat.le_refl _)) 4 (.slice none 0 0)))
  clear it9 re9 z9 f9 F9 r1 rf
  go_wp2
  refine bodyPost_ret (v := phV 3 t.a f) (by unfold phV; simp [results, Tryd.results83, go_sem, y0, y1, y2, y3, y4]) rfl ⟨⟨_, _, _, rfl⟩, hfin.out⟩
set_option maxRecDepth 100000 in
set_option maxHeartbeats 800000 in
theorem phrase_none2 (w : World) (R g n c I : Nat) (T : List Tk) (E D : Int) (h : RZ w R g T n c I E D 0 0) (hlg : g < w.heap.size) (hI : I < n) (hn7 : n ≤ 1000000) (hm : ¬ (I + 1 < n ∧ ((T.getD (I + 1) default).w = [47] ∨ (T.getD (I + 1) default).w = [92] ∨ (T.getD (I + 1) default).w = [46]))) (f : Int) (hf : f = verbR (T.getD I default).w true) (hf0 : (f != 0) = false) :
    Calls Tryd.prog 83 #[.pointer (some ⟨R, 0, none⟩), .bool true] w fun e w' => (∃ x y z, e = .returned (phV x y z)) ∧ RZ w' R g T n c I E D (T.getD I default).a 43 ∧ Fr (fun k => k = R) w w' := by
  obtain ⟨t, ht⟩ : ∃ t, t = T.getD I default := ⟨_, rfl⟩
  have H := Lib.hid h
  obtain ⟨_, k1, k2, _⟩ := h.tok I hI
  obtain ⟨c0, c1, -⟩ := h.c0
  have hlt := h.lt
  have HP := Lib.hid (show placeR T I E = (T.getD I default).a by unfold placeR; rw [if_pos (by rw [h.hn]; exact hI)])
  rw [← ht] at k1 k2 hf HP ⊢
  have HK2 := Lib.hid k2
  have q1 := idxTo g n c I hI
  have HVb := Lib.hid (fun W => rverb_any t.w true W)
  rw [← hf] at HVb
  have HIS := Lib.hid (fun (W : World) (h : RZ W R g T n c (I + 1) E D 0 0) (s : List UInt8) (hs : s = [47] ∨ s = [92] ∨ s = [46]) => is_any W R g n c (I + 1) T E D 0 0 h s false (fun a b => absurd ⟨a, by rw [b]; exact hs⟩ hm) (by symm; rw [decide_eq_false_iff_not]; exact fun a => hm ⟨a.1, by rw [a.2]; exact hs⟩))
  have HIS47 := Lib.hid (fun (W : World) (h : RZ W R g T n c (I + 1) E D 0 0) => (show Calls Tryd.prog 48 #[.pointer (some ⟨R, 0, none⟩), .string ⟨#[47]⟩] W (fun e w' => e = .returned (.bool false) ∧ ∃ j, w' = W.drewN j) from HIS.out W h [47] (by simp)))
  have HIS92 := Lib.hid (fun (W : World) (h : RZ W R g T n c (I + 1) E D 0 0) => (show Calls Tryd.prog 48 #[.pointer (some ⟨R, 0, none⟩), .string ⟨#[92]⟩] W (fun e w' => e = .returned (.bool false) ∧ ∃ j, w' = W.drewN j) from HIS.out W h [92] (by simp)))
  have HIS46 := Lib.hid (fun (W : World) (h : RZ W R g T n c (I + 1) E D 0 0) => (show Calls Tryd.prog 48 #[.pointer (some ⟨R, 0, none⟩), .string ⟨#[46]⟩] W (fun e w' => e = .returned (.bool false) ∧ ∃ j, w' = W.drewN j) from HIS.out W h [46] (by simp)))
  have Z0 := Lib.hid (PZ.start h t.a)
  have HT := Lib.hid (fun (W : World) (hF : Fr (fun k => k = R) w W) => show W.cell? ⟨g, I * 4 + 2, none⟩ = some (.string (bs t.w)) from (World.cell?_of_block (a := ⟨g, I * 4 + 2, none⟩) (hF.block g hlg h.ne)).trans k2)
  clear h hf hm ht k2
  go_enter Tryd.func83, Tryd.ntmps83
  go_wp2
  go_region
  obtain ⟨W1, hW1⟩ : ∃ W1, W1 = ((w.alloc (.cells #[.int .i64 0, .int .i64 0, .int .u8 0, .string ⟨#[]⟩, .slice none 0 0] 52)).alloc (.cells #[.int .i64 3, .int .i64 t.a, .int .u8 0, .string ⟨#[]⟩, .slice none 0 0] 52)).drew := ⟨_, rfl⟩
  rw [← hW1]
  have Z1 := Z0.out
  rw [← hW1] at Z1
  have HX1 := Lib.hid Z1
  have w0 := Z1.cells.x0
  have wf := Z1.cells.xf 0
  clear hW1 c0 c1 k1 Z0 Z1
  go_wp2
  obtain ⟨W3, hW3⟩ : ∃ W3, W3 = W1.setCell ⟨w.heap.size + 1, 0, none⟩ (.int .i64 4) := ⟨_, rfl⟩
  rw [← hW3]
  have Z1 : PZ w W3 R g T n c I E D 4 t.a 0 := by rw [hW3]; exact HX1.out.setX 0 (.int .i64 4) 4 0 rfl
  have HZ1 := Lib.hid Z1
  have cz := Z1.cells
  clear hW3 w0 wf HX1 Z1
  have u0 := fun j => (show (W3.drewN j).cell? ⟨R, 0, none⟩ = some (.slice (some ⟨g, 0, none⟩) n c) from cz.r0)
  have u1 := fun j => (show (W3.drewN j).cell? ⟨R, 1, none⟩ = some (.int .i64 I) from cz.r1)
  have u3 := fun j => (show (W3.drewN j).frozen? ⟨R, 1, none⟩ = false from cz.rf)
  have u2 := fun j => (show (W3.drewN j).cell? ⟨g, I * 4 + 2, none⟩ = some (.string (bs t.w)) from HT.out W3 HZ1.out.fr)
  clear cz
  go_wp2
  go_quiet (fail)
  go_wp2_with fail
  refine (HVb.out _).mono ?_
  rintro e w5 ⟨rfl, e5⟩
  have Z2 := Lib.hid (show PZ w w5 R g T n c (I + 1) E D 4 t.a 0 by rw [e5]; exact (HZ1.out.drewN nq).setI (I + 1) _ rfl)
  clear e5 u0 u1 u2 u3
  go_wp2_with fail
  refine (HIS47.out _ Z2.out.rz).mono ?_
  rintro e w6 ⟨rfl, jw6, ew6⟩
  have Z3 := Lib.hid (show PZ w w6 R g T n c (I + 1) E D 4 t.a 0 by rw [ew6]; exact Z2.out.drewN jw6)
  clear ew6
  go_wp2_with fail
  refine (HIS92.out _ Z3.out.rz).mono ?_
  rintro e w7 ⟨rfl, jw7, ew7⟩
  have Z4 := Lib.hid (show PZ w w7 R g T n c (I + 1) E D 4 t.a 0 by rw [ew7]; exact Z3.out.drewN jw7)
  clear ew7
  go_wp2_with fail
  refine (HIS46.out _ Z4.out.rz).mono ?_
  rintro e w8 ⟨rfl, j8, e8⟩
  have Z5 := Lib.hid (show PZ w w8 R g T n c (I + 1) E D 4 t.a 0 by rw [e8]; exact Z4.out.drewN j8)
  have cz := Z5.out.cells
  have r1 := cz.r1
  have rf := cz.rf
  clear e8 cz
  go_wp2_with fail
  have Z6 := Lib.hid (Z5.out.setI I I rfl)
  refine (no_any _ R g n c I T E D 0 0 43 Z6.out.rz).mono ?_
  rintro e w9 ⟨rfl, z9, f9⟩
  have hR := Z5.out.lt
  have a1 : ¬ R = w.heap.size + 1 := by omega
  have a2 : ¬ g = w.heap.size + 1 := by omega
  have a3 : ¬ R = w.heap.size := by omega
  have a4 : ¬ g = w.heap.size := by omega
  have it9 := (f9.block (w.heap.size + 1) (heap_lt Z6.out.it) (by omega)).trans Z6.out.it
  have re9 := (f9.block w.heap.size (heap_lt Z6.out.res) (by omega)).trans Z6.out.res
  have x0 : w9.cell? ⟨w.heap.size + 1, 0, none⟩ = some (.int .i64 4) := by rw [cell_of_row _ _ _ _ _ _ it9]; rfl
  have x1 : w9.cell? ⟨w.heap.size + 1, 1, none⟩ = some (.int .i64 t.a) := by rw [cell_of_row _ _ _ _ _ _ it9]; rfl
  have x2 : w9.cell? ⟨w.heap.size + 1, 2, none⟩ = some (.int .u8 0) := by rw [cell_of_row _ _ _ _ _ _ it9]; rfl
  have x3 : w9.cell? ⟨w.heap.size + 1, 3, none⟩ = some (.string ⟨#[]⟩) := by rw [cell_of_row _ _ _ _ _ _ it9]; rfl
  have x4 : w9.cell? ⟨w.heap.size + 1, 4, none⟩ = some (.slice none 0 0) := by rw [cell_of_row _ _ _ _ _ _ it9]; rfl
  have xf2 : w9.frozen? ⟨w.heap.size + 1, 2, none⟩ = false := frozen_of_row _ _ _ _ _ it9
  have y0 : w9.cell? ⟨w.heap.size, 0, none⟩ = some (.int .i64 0) := by rw [cell_of_row _ _ _ _ _ _ re9]; rfl
  have y1 : w9.cell? ⟨w.heap.size, 1, none⟩ = some (.int .i64 0) := by rw [cell_of_row _ _ _ _ _ _ re9]; rfl
  have y2 : w9.cell? ⟨w.heap.size, 2, none⟩ = some (.int .u8 0) := by rw [cell_of_row _ _ _ _ _ _ re9]; rfl
  have y3 : w9.cell? ⟨w.heap.size, 3, none⟩ = some (.string ⟨#[]⟩) := by rw [cell_of_row _ _ _ _ _ _ re9]; rfl
  have y4 : w9.cell? ⟨w.heap.size, 4, none⟩ = some (.slice none 0 0) := by rw [cell_of_row _ _ _ _ _ _ re9]; rfl
  have yf0 : w9.frozen? ⟨w.heap.size, 0, none⟩ = false := frozen_of_row _ _ _ _ _ re9
  have yf1 : w9.frozen? ⟨w.heap.size, 1, none⟩ = false := frozen_of_row _ _ _ _ _ re9
  have yf2 : w9.frozen? ⟨w.heap.size, 2, none⟩ = false := frozen_of_row _ _ _ _ _ re9
  have yf3 : w9.frozen? ⟨w.heap.size, 3, none⟩ = false := frozen_of_row _ _ _ _ _ re9
  have yf4 : w9.frozen? ⟨w.heap.size, 4, none⟩ = false := frozen_of_row _ _ _ _ _ re9
  rw [HP.out] at z9
  have F9 : Fr (fun k => k = R) w w9 := Z6.out.fr.trans f9
  have hfin := Lib.hid (And.intro ((((((z9.far a1 a2 2 (.int .u8 f)).far a3 a4 0 (.int .i64 4)).far a3 a4 1 (.int .i64 t.a)).far a3 a4 2 (.int .u8 f)).far a3 a4 3 (.string ⟨#[]⟩)).far a3 a4 4 (.slice none 0 0))
    ((((((F9.set (b := w.heap.size + 1) (.inr (by omega)) 2 (.int .u8 f)).set (b := w.heap.size) (.inr (Nat.le_refl _)) 0 (.int .i64 4)).set (b := w.heap.size) (.inr (Nat.le_refl _)) 1 (.int .i64 t.a)).set (b := w.heap.size) (.inr (Nat.le_refl _)) 2 (.int .u8 f)).set (b := w.heap.size) (.inr (Nat.le_refl _)) 3 (.string ⟨#[]⟩)).set (b := w.heap.size) (.inr (Nat.le_refl _)) 4 (.slice none 0 0)))
  clear it9 re9 z9 f9 F9 r1 rf
  go_wp2
  refine bodyPost_ret (v := phV 4 t.a f) (by unfold phV; simp [results, Tryd.results83, go_sem, y0, y1, y2, y3, y4]) rfl ⟨⟨_, _, _, rfl⟩, hfin.out⟩
end Go.Proofs.YthdognmppbckbaaDoor
/- The document's Reader: phrase, with a mark, and found. -/
namespace Go.Proofs.YthdognmppbckbaaDoor
open Go.RowKit
set_option linter.unusedVariables false
set_option maxRecDepth 100000 in
set_option maxHeartbeats 1600000 in
theorem phrase_m47 (w : World) (R g n c I : Nat) (T : List Tk) (E D : Int) (h : RZ w R g T n c I E D 0 0) (hlg : g < w.heap.size) (hI : I < n) (hn7 : n ≤ 1000000) (hI1 : I + 1 < n) (hmw : (T.getD (I + 1) default).w = [47]) (hkk : (T.getD (I + 1) default).k = 1 ∨ (T.getD (I + 1) default).k = 3) (f : Int) (hf : f = verbR (T.getD I default).w true) (hf0 : (f != 0) = true) (hf17 : decide (f ≤ 17) = true) :
    Calls Tryd.prog 83 #[.pointer (some ⟨R, 0, none⟩), .bool false] w fun e w' => e = .returned (phV 5 (T.getD I default).a f) ∧ RZ w' R g T n c (I + 2) E D 0 0 ∧ Fr (fun k => k = R) w w' := by
  obtain ⟨t, ht⟩ : ∃ t, t = T.getD I default := ⟨_, rfl⟩
  have H := Lib.hid h
  obtain ⟨_, k1, k2, _⟩ := h.tok I hI
  obtain ⟨c0, c1, -⟩ := h.c0
  have hlt := h.lt
  rw [← ht] at k1 k2 hf ⊢
  have HK2 := Lib.hid k2
  have q1 := idxTo g n c I hI
  have HVb := Lib.hid (fun W => rverb_any t.w false W)
  have HVt := Lib.hid (fun W => rverb_any t.w true W)
  rw [← hf] at HVt
  obtain ⟨f0, hf00⟩ : ∃ f0, f0 = verbR t.w false := ⟨_, rfl⟩
  rw [← hf00] at HVb
  clear hf00
  obtain ⟨bb, hbb⟩ : ∃ bb, bb = (f0 != 0) := ⟨_, rfl⟩
  rw [← hbb] at HVb
  clear hbb
  have HIS47 := Lib.hid (fun (W : World) (h : RZ W R g T n c (I + 1) E D 0 0) => (show Calls Tryd.prog 48 #[.pointer (some ⟨R, 0, none⟩), .string ⟨#[47]⟩] W (fun e w' => e = .returned (.bool true) ∧ ∃ j, w' = W.drewN j) from is_any W R g n c (I + 1) T E D 0 0 h [47] true (fun _ _ => hkk) (by rw [hmw]; simp [hI1])))
  have HIS92 := Lib.hid (fun (W : World) (h : RZ W R g T n c (I + 1) E D 0 0) => (show Calls Tryd.prog 48 #[.pointer (some ⟨R, 0, none⟩), .string ⟨#[92]⟩] W (fun e w' => e = .returned (.bool false) ∧ ∃ j, w' = W.drewN j) from is_any W R g n c (I + 1) T E D 0 0 h [92] false (fun _ _ => hkk) (by rw [hmw]; simp)))
  have HIS46 := Lib.hid (fun (W : World) (h : RZ W R g T n c (I + 1) E D 0 0) => (show Calls Tryd.prog 48 #[.pointer (some ⟨R, 0, none⟩), .string ⟨#[46]⟩] W (fun e w' => e = .returned (.bool false) ∧ ∃ j, w' = W.drewN j) from is_any W R g n c (I + 1) T E D 0 0 h [46] false (fun _ _ => hkk) (by rw [hmw]; simp)))
  have Z0 := Lib.hid (PZ.start h t.a)
  have HT := Lib.hid (fun (W : World) (hF : Fr (fun k => k = R) w W) => show W.cell? ⟨g, I * 4 + 2, none⟩ = some (.string (bs t.w)) from (World.cell?_of_block (a := ⟨g, I * 4 + 2, none⟩) (hF.block g hlg h.ne)).trans k2)
  have HMM := Lib.hid (And.intro hmw (And.intro hkk hI1))
  clear h hf ht k2 hmw hkk hI1
  go_enter Tryd.func83, Tryd.ntmps83
  go_wp2
  go_region
  obtain ⟨W1, hW1⟩ : ∃ W1, W1 = ((w.alloc (.cells #[.int .i64 0, .int .i64 0, .int .u8 0, .string ⟨#[]⟩, .slice none 0 0] 52)).alloc (.cells #[.int .i64 3, .int .i64 t.a, .int .u8 0, .string ⟨#[]⟩, .slice none 0 0] 52)).drew := ⟨_, rfl⟩
  rw [← hW1]
  have Z1 := Z0.out
  rw [← hW1] at Z1
  have HZ1 := Lib.hid Z1
  have cz := Z1.cells
  clear hW1 c0 c1 k1 Z0 Z1
  have u0 := fun j => (show (W1.drewN j).cell? ⟨R, 0, none⟩ = some (.slice (some ⟨g, 0, none⟩) n c) from cz.r0)
  have u1 := fun j => (show (W1.drewN j).cell? ⟨R, 1, none⟩ = some (.int .i64 I) from cz.r1)
  have u3 := fun j => (show (W1.drewN j).frozen? ⟨R, 1, none⟩ = false from cz.rf)
  have u2 := fun j => (show (W1.drewN j).cell? ⟨g, I * 4 + 2, none⟩ = some (.string (bs t.w)) from HT.out W1 HZ1.out.fr)
  clear cz
  go_wp2
  go_quiet (fail)
  go_wp2_with fail
  refine (HVb.out _).mono ?_
  rintro e w5 ⟨rfl, e5⟩
  have Z2 := Lib.hid (show PZ w w5 R g T n c (I + 1) E D 3 t.a 0 by rw [e5]; exact (HZ1.out.drewN nq).setI (I + 1) _ rfl)
  clear e5 u0 u1 u2 u3
  go_wp2_with fail
  refine (HIS47.out _ Z2.out.rz).mono ?_
  rintro e w6 ⟨rfl, j6, e6⟩
  have Z6 := Lib.hid (show PZ w w6 R g T n c (I + 1) E D 3 t.a 0 by rw [e6]; exact Z2.out.drewN j6)
  clear e6
  go_wp2_with fail
  refine (HIS46.out _ Z6.out.rz).mono ?_
  rintro e w7 ⟨rfl, j7, e7⟩
  have Z7 := Lib.hid (show PZ w w7 R g T n c (I + 1) E D 3 t.a 0 by rw [e7]; exact Z6.out.drewN j7)
  clear e7
  have x0 := Z7.out.cells.x0
  have xf0 := Z7.out.cells.xf 0
  go_wp2_with fail
  clear x0 xf0
  refine (HIS47.out _ (Z7.out.setX 0 (.int .i64 6) 6 0 rfl).rz).mono ?_
  rintro e w8 ⟨rfl, j8, e8⟩
  have Z8 := Lib.hid (show PZ w w8 R g T n c (I + 1) E D 6 t.a 0 by rw [e8]; exact (Z7.out.setX 0 (.int .i64 6) 6 0 rfl).drewN j8)
  clear e8
  have x0 := Z8.out.cells.x0
  have xf0 := Z8.out.cells.xf 0
  go_wp2_with fail
  clear x0 xf0
  refine (HVt.out _).mono ?_
  rintro e w9 ⟨rfl, e9⟩
  have Z9 := Lib.hid (show PZ w w9 R g T n c (I + 1) E D 5 t.a 0 by rw [e9]; exact (Z8.out.setX 0 (.int .i64 5) 5 0 rfl))
  clear e9
  obtain ⟨-, r1, rf, x0, x1, x2, x3, x4, xf, y, yf, -⟩ := Z9.out.cells
  have xf2 := xf 2
  have yf0 := yf 0
  have yf1 := yf 1
  have yf2 := yf 2
  have yf3 := yf 3
  have yf4 := yf 4
  obtain ⟨v0, y0⟩ := y 0 (by omega)
  obtain ⟨v1, y1⟩ := y 1 (by omega)
  obtain ⟨v2, y2⟩ := y 2 (by omega)
  obtain ⟨v3, y3⟩ := y 3 (by omega)
  obtain ⟨v4, y4⟩ := y 4 (by omega)
  have ZL := Lib.hid (Z9.out.setI (I + 2) ((I : Int) + 1 + 1) (by omega))
  have hR := Z9.out.lt
  have a1 : ¬ R = w.heap.size + 1 := by omega
  have a2 : ¬ g = w.heap.size + 1 := by omega
  have a3 : ¬ R = w.heap.size := by omega
  have a4 : ¬ g = w.heap.size := by omega
  have hfin := Lib.hid (And.intro ((((((ZL.out.rz.far a1 a2 2 (.int .u8 f)).far a3 a4 0 (.int .i64 5)).far a3 a4 1 (.int .i64 t.a)).far a3 a4 2 (.int .u8 f)).far a3 a4 3 (.string ⟨#[]⟩)).far a3 a4 4 (.slice none 0 0))
    ((((((ZL.out.fr.set (b := w.heap.size + 1) (.inr (by omega)) 2 (.int .u8 f)).set (b := w.heap.size) (.inr (Nat.le_refl _)) 0 (.int .i64 5)).set (b := w.heap.size) (.inr (Nat.le_refl _)) 1 (.int .i64 t.a)).set (b := w.heap.size) (.inr (Nat.le_refl _)) 2 (.int .u8 f)).set (b := w.heap.size) (.inr (Nat.le_refl _)) 3 (.string ⟨#[]⟩)).set (b := w.heap.size) (.inr (Nat.le_refl _)) 4 (.slice none 0 0)))
  clear xf y yf
  go_wp2
  refine bodyPost_ret (v := phV 5 t.a f) (by unfold phV; simp [results, Tryd.results83, go_sem, y0, y1, y2, y3, y4]) rfl ⟨rfl, hfin.out⟩
set_option maxRecDepth 100000 in
set_option maxHeartbeats 1600000 in
theorem phrase_m92 (w : World) (R g n c I : Nat) (T : List Tk) (E D : Int) (h : RZ w R g T n c I E D 0 0) (hlg : g < w.heap.size) (hI : I < n) (hn7 : n ≤ 1000000) (hI1 : I + 1 < n) (hmw : (T.getD (I + 1) default).w = [92]) (hkk : (T.getD (I + 1) default).k = 1 ∨ (T.getD (I + 1) default).k = 3) (f : Int) (hf : f = verbR (T.getD I default).w true) (hf0 : (f != 0) = true) (hf17 : decide (f ≤ 17) = true) :
    Calls Tryd.prog 83 #[.pointer (some ⟨R, 0, none⟩), .bool false] w fun e w' => e = .returned (phV 6 (T.getD I default).a f) ∧ RZ w' R g T n c (I + 2) E D 0 0 ∧ Fr (fun k => k = R) w w' := by
  obtain ⟨t, ht⟩ : ∃ t, t = T.getD I default := ⟨_, rfl⟩
  have H := Lib.hid h
  obtain ⟨_, k1, k2, _⟩ := h.tok I hI
  obtain ⟨c0, c1, -⟩ := h.c0
  have hlt := h.lt
  rw [← ht] at k1 k2 hf ⊢
  have HK2 := Lib.hid k2
  have q1 := idxTo g n c I hI
  have HVb := Lib.hid (fun W => rverb_any t.w false W)
  have HVt := Lib.hid (fun W => rverb_any t.w true W)
  rw [← hf] at HVt
  obtain ⟨f0, hf00⟩ : ∃ f0, f0 = verbR t.w false := ⟨_, rfl⟩
  rw [← hf00] at HVb
  clear hf00
  obtain ⟨bb, hbb⟩ : ∃ bb, bb = (f0 != 0) := ⟨_, rfl⟩
  rw [← hbb] at HVb
  clear hbb
  have HIS47 := Lib.hid (fun (W : World) (h : RZ W R g T n c (I + 1) E D 0 0) => (show Calls Tryd.prog 48 #[.pointer (some ⟨R, 0, none⟩), .string ⟨#[47]⟩] W (fun e w' => e = .returned (.bool false) ∧ ∃ j, w' = W.drewN j) from is_any W R g n c (I + 1) T E D 0 0 h [47] false (fun _ _ => hkk) (by rw [hmw]; simp)))
  have HIS92 := Lib.hid (fun (W : World) (h : RZ W R g T n c (I + 1) E D 0 0) => (show Calls Tryd.prog 48 #[.pointer (some ⟨R, 0, none⟩), .string ⟨#[92]⟩] W (fun e w' => e = .returned (.bool true) ∧ ∃ j, w' = W.drewN j) from is_any W R g n c (I + 1) T E D 0 0 h [92] true (fun _ _ => hkk) (by rw [hmw]; simp [hI1])))
  have HIS46 := Lib.hid (fun (W : World) (h : RZ W R g T n c (I + 1) E D 0 0) => (show Calls Tryd.prog 48 #[.pointer (some ⟨R, 0, none⟩), .string ⟨#[46]⟩] W (fun e w' => e = .returned (.bool false) ∧ ∃ j, w' = W.drewN j) from is_any W R g n c (I + 1) T E D 0 0 h [46] false (fun _ _ => hkk) (by rw [hmw]; simp)))
  have Z0 := Lib.hid (PZ.start h t.a)
  have HT := Lib.hid (fun (W : World) (hF : Fr (fun k => k = R) w W) => show W.cell? ⟨g, I * 4 + 2, none⟩ = some (.string (bs t.w)) from (World.cell?_of_block (a := ⟨g, I * 4 + 2, none⟩) (hF.block g hlg h.ne)).trans k2)
  have HMM := Lib.hid (And.intro hmw (And.intro hkk hI1))
  clear h hf ht k2 hmw hkk hI1
  go_enter Tryd.func83, Tryd.ntmps83
  go_wp2
  go_region
  obtain ⟨W1, hW1⟩ : ∃ W1, W1 = ((w.alloc (.cells #[.int .i64 0, .int .i64 0, .int .u8 0, .string ⟨#[]⟩, .slice none 0 0] 52)).alloc (.cells #[.int .i64 3, .int .i64 t.a, .int .u8 0, .string ⟨#[]⟩, .slice none 0 0] 52)).drew := ⟨_, rfl⟩
  rw [← hW1]
  have Z1 := Z0.out
  rw [← hW1] at Z1
  have HZ1 := Lib.hid Z1
  have cz := Z1.cells
  clear hW1 c0 c1 k1 Z0 Z1
  have u0 := fun j => (show (W1.drewN j).cell? ⟨R, 0, none⟩ = some (.slice (some ⟨g, 0, none⟩) n c) from cz.r0)
  have u1 := fun j => (show (W1.drewN j).cell? ⟨R, 1, none⟩ = some (.int .i64 I) from cz.r1)
  have u3 := fun j => (show (W1.drewN j).frozen? ⟨R, 1, none⟩ = false from cz.rf)
  have u2 := fun j => (show (W1.drewN j).cell? ⟨g, I * 4 + 2, none⟩ = some (.string (bs t.w)) from HT.out W1 HZ1.out.fr)
  clear cz
  go_wp2
  go_quiet (fail)
  go_wp2_with fail
  refine (HVb.out _).mono ?_
  rintro e w5 ⟨rfl, e5⟩
  have Z2 := Lib.hid (show PZ w w5 R g T n c (I + 1) E D 3 t.a 0 by rw [e5]; exact (HZ1.out.drewN nq).setI (I + 1) _ rfl)
  clear e5 u0 u1 u2 u3
  go_wp2_with fail
  refine (HIS47.out _ Z2.out.rz).mono ?_
  rintro e w6 ⟨rfl, j6, e6⟩
  have Z6 := Lib.hid (show PZ w w6 R g T n c (I + 1) E D 3 t.a 0 by rw [e6]; exact Z2.out.drewN j6)
  clear e6
  go_wp2_with fail
  refine (HIS92.out _ Z6.out.rz).mono ?_
  rintro e w7 ⟨rfl, j7, e7⟩
  have Z7 := Lib.hid (show PZ w w7 R g T n c (I + 1) E D 3 t.a 0 by rw [e7]; exact Z6.out.drewN j7)
  clear e7
  go_wp2_with fail
  refine (HIS46.out _ Z7.out.rz).mono ?_
  rintro e w8 ⟨rfl, j8, e8⟩
  have Z8 := Lib.hid (show PZ w w8 R g T n c (I + 1) E D 3 t.a 0 by rw [e8]; exact Z7.out.drewN j8)
  clear e8
  have x0 := Z8.out.cells.x0
  have xf0 := Z8.out.cells.xf 0
  go_wp2_with fail
  clear x0 xf0
  refine (HIS47.out _ (Z8.out.setX 0 (.int .i64 6) 6 0 rfl).rz).mono ?_
  rintro e w9 ⟨rfl, j9, e9⟩
  have Z9 := Lib.hid (show PZ w w9 R g T n c (I + 1) E D 6 t.a 0 by rw [e9]; exact (Z8.out.setX 0 (.int .i64 6) 6 0 rfl).drewN j9)
  clear e9
  go_wp2_with fail
  refine (HVt.out _).mono ?_
  rintro e w10 ⟨rfl, e10⟩
  have Z10 := Lib.hid (show PZ w w10 R g T n c (I + 1) E D 6 t.a 0 by rw [e10]; exact Z9.out)
  clear e10
  obtain ⟨-, r1, rf, x0, x1, x2, x3, x4, xf, y, yf, -⟩ := Z10.out.cells
  have xf2 := xf 2
  have yf0 := yf 0
  have yf1 := yf 1
  have yf2 := yf 2
  have yf3 := yf 3
  have yf4 := yf 4
  obtain ⟨v0, y0⟩ := y 0 (by omega)
  obtain ⟨v1, y1⟩ := y 1 (by omega)
  obtain ⟨v2, y2⟩ := y 2 (by omega)
  obtain ⟨v3, y3⟩ := y 3 (by omega)
  obtain ⟨v4, y4⟩ := y 4 (by omega)
  have ZL := Lib.hid (Z10.out.setI (I + 2) ((I : Int) + 1 + 1) (by omega))
  have hR := Z10.out.lt
  have a1 : ¬ R = w.heap.size + 1 := by omega
  have a2 : ¬ g = w.heap.size + 1 := by omega
  have a3 : ¬ R = w.heap.size := by omega
  have a4 : ¬ g = w.heap.size := by omega
  have hfin := Lib.hid (And.intro ((((((ZL.out.rz.far a1 a2 2 (.int .u8 f)).far a3 a4 0 (.int .i64 6)).far a3 a4 1 (.int .i64 t.a)).far a3 a4 2 (.int .u8 f)).far a3 a4 3 (.string ⟨#[]⟩)).far a3 a4 4 (.slice none 0 0))
    ((((((ZL.out.fr.set (b := w.heap.size + 1) (.inr (by omega)) 2 (.int .u8 f)).set (b := w.heap.size) (.inr (Nat.le_refl _)) 0 (.int .i64 6)).set (b := w.heap.size) (.inr (Nat.le_refl _)) 1 (.int .i64 t.a)).set (b := w.heap.size) (.inr (Nat.le_refl _)) 2 (.int .u8 f)).set (b := w.heap.size) (.inr (Nat.le_refl _)) 3 (.string ⟨#[]⟩)).set (b := w.heap.size) (.inr (Nat.le_refl _)) 4 (.slice none 0 0)))
  clear xf y yf
  go_wp2
  refine bodyPost_ret (v := phV 6 t.a f) (by unfold phV; simp [results, Tryd.results83, go_sem, y0, y1, y2, y3, y4]) rfl ⟨rfl, hfin.out⟩
set_option maxRecDepth 100000 in
set_option maxHeartbeats 1600000 in
theorem phrase_m46 (w : World) (R g n c I : Nat) (T : List Tk) (E D : Int) (h : RZ w R g T n c I E D 0 0) (hlg : g < w.heap.size) (hI : I < n) (hn7 : n ≤ 1000000) (hI1 : I + 1 < n) (hmw : (T.getD (I + 1) default).w = [46]) (hkk : (T.getD (I + 1) default).k = 1 ∨ (T.getD (I + 1) default).k = 3) (f : Int) (hf : f = verbR (T.getD I default).w true) (hf0 : (f != 0) = true) (hf17 : decide (f ≤ 17) = true) :
    Calls Tryd.prog 83 #[.pointer (some ⟨R, 0, none⟩), .bool true] w fun e w' => e = .returned (phV 7 (T.getD I default).a f) ∧ RZ w' R g T n c (I + 2) E D 0 0 ∧ Fr (fun k => k = R) w w' := by
  obtain ⟨t, ht⟩ : ∃ t, t = T.getD I default := ⟨_, rfl⟩
  have H := Lib.hid h
  obtain ⟨_, k1, k2, _⟩ := h.tok I hI
  obtain ⟨c0, c1, -⟩ := h.c0
  have hlt := h.lt
  rw [← ht] at k1 k2 hf ⊢
  have HK2 := Lib.hid k2
  have q1 := idxTo g n c I hI
  have HVb := Lib.hid (fun W => rverb_any t.w true W)
  have HVt := Lib.hid (fun W => rverb_any t.w true W)
  rw [← hf] at HVt
  rw [← hf] at HVb
  have HIS47 := Lib.hid (fun (W : World) (h : RZ W R g T n c (I + 1) E D 0 0) => (show Calls Tryd.prog 48 #[.pointer (some ⟨R, 0, none⟩), .string ⟨#[47]⟩] W (fun e w' => e = .returned (.bool false) ∧ ∃ j, w' = W.drewN j) from is_any W R g n c (I + 1) T E D 0 0 h [47] false (fun _ _ => hkk) (by rw [hmw]; simp)))
  have HIS92 := Lib.hid (fun (W : World) (h : RZ W R g T n c (I + 1) E D 0 0) => (show Calls Tryd.prog 48 #[.pointer (some ⟨R, 0, none⟩), .string ⟨#[92]⟩] W (fun e w' => e = .returned (.bool false) ∧ ∃ j, w' = W.drewN j) from is_any W R g n c (I + 1) T E D 0 0 h [92] false (fun _ _ => hkk) (by rw [hmw]; simp)))
  have HIS46 := Lib.hid (fun (W : World) (h : RZ W R g T n c (I + 1) E D 0 0) => (show Calls Tryd.prog 48 #[.pointer (some ⟨R, 0, none⟩), .string ⟨#[46]⟩] W (fun e w' => e = .returned (.bool true) ∧ ∃ j, w' = W.drewN j) from is_any W R g n c (I + 1) T E D 0 0 h [46] true (fun _ _ => hkk) (by rw [hmw]; simp [hI1])))
  have Z0 := Lib.hid (PZ.start h t.a)
  have HT := Lib.hid (fun (W : World) (hF : Fr (fun k => k = R) w W) => show W.cell? ⟨g, I * 4 + 2, none⟩ = some (.string (bs t.w)) from (World.cell?_of_block (a := ⟨g, I * 4 + 2, none⟩) (hF.block g hlg h.ne)).trans k2)
  have HMM := Lib.hid (And.intro hmw (And.intro hkk hI1))
  clear h hf ht k2 hmw hkk hI1
  go_enter Tryd.func83, Tryd.ntmps83
  go_wp2
  go_region
  obtain ⟨W1, hW1⟩ : ∃ W1, W1 = ((w.alloc (.cells #[.int .i64 0, .int .i64 0, .int .u8 0, .string ⟨#[]⟩, .slice none 0 0] 52)).alloc (.cells #[.int .i64 3, .int .i64 t.a, .int .u8 0, .string ⟨#[]⟩, .slice none 0 0] 52)).drew := ⟨_, rfl⟩
  rw [← hW1]
  have Z1 := Z0.out
  rw [← hW1] at Z1
  have HX1 := Lib.hid Z1
  have w0 := Z1.cells.x0
  have wf := Z1.cells.xf 0
  clear hW1 c0 c1 k1 Z0 Z1
  go_wp2
  obtain ⟨W3, hW3⟩ : ∃ W3, W3 = W1.setCell ⟨w.heap.size + 1, 0, none⟩ (.int .i64 4) := ⟨_, rfl⟩
  rw [← hW3]
  have Z1 : PZ w W3 R g T n c I E D 4 t.a 0 := by rw [hW3]; exact HX1.out.setX 0 (.int .i64 4) 4 0 rfl
  have HZ1 := Lib.hid Z1
  have cz := Z1.cells
  clear hW3 w0 wf HX1 Z1
  have u0 := fun j => (show (W3.drewN j).cell? ⟨R, 0, none⟩ = some (.slice (some ⟨g, 0, none⟩) n c) from cz.r0)
  have u1 := fun j => (show (W3.drewN j).cell? ⟨R, 1, none⟩ = some (.int .i64 I) from cz.r1)
  have u3 := fun j => (show (W3.drewN j).frozen? ⟨R, 1, none⟩ = false from cz.rf)
  have u2 := fun j => (show (W3.drewN j).cell? ⟨g, I * 4 + 2, none⟩ = some (.string (bs t.w)) from HT.out W3 HZ1.out.fr)
  clear cz
  go_wp2
  go_quiet (fail)
  go_wp2_with fail
  refine (HVb.out _).mono ?_
  rintro e w5 ⟨rfl, e5⟩
  have Z2 := Lib.hid (show PZ w w5 R g T n c (I + 1) E D 4 t.a 0 by rw [e5]; exact (HZ1.out.drewN nq).setI (I + 1) _ rfl)
  clear e5 u0 u1 u2 u3
  go_wp2_with fail
  refine (HIS47.out _ Z2.out.rz).mono ?_
  rintro e w6 ⟨rfl, j6, e6⟩
  have Z6 := Lib.hid (show PZ w w6 R g T n c (I + 1) E D 4 t.a 0 by rw [e6]; exact Z2.out.drewN j6)
  clear e6
  go_wp2_with fail
  refine (HIS92.out _ Z6.out.rz).mono ?_
  rintro e w7 ⟨rfl, j7, e7⟩
  have Z7 := Lib.hid (show PZ w w7 R g T n c (I + 1) E D 4 t.a 0 by rw [e7]; exact Z6.out.drewN j7)
  clear e7
  go_wp2_with fail
  refine (HIS46.out _ Z7.out.rz).mono ?_
  rintro e w8 ⟨rfl, j8, e8⟩
  have Z8 := Lib.hid (show PZ w w8 R g T n c (I + 1) E D 4 t.a 0 by rw [e8]; exact Z7.out.drewN j8)
  clear e8
  go_wp2_with fail
  refine (HIS46.out _ Z8.out.rz).mono ?_
  rintro e w9 ⟨rfl, j9, e9⟩
  have Z9 := Lib.hid (show PZ w w9 R g T n c (I + 1) E D 4 t.a 0 by rw [e9]; exact Z8.out.drewN j9)
  clear e9
  have x0 := Z9.out.cells.x0
  have xf0 := Z9.out.cells.xf 0
  go_wp2_with fail
  clear x0 xf0
  refine (HIS47.out _ (Z9.out.setX 0 (.int .i64 6) 6 0 rfl).rz).mono ?_
  rintro e w10 ⟨rfl, j10, e10⟩
  have Z10 := Lib.hid (show PZ w w10 R g T n c (I + 1) E D 6 t.a 0 by rw [e10]; exact (Z9.out.setX 0 (.int .i64 6) 6 0 rfl).drewN j10)
  clear e10
  have x0 := Z10.out.cells.x0
  have xf0 := Z10.out.cells.xf 0
  go_wp2_with fail
  clear x0 xf0
  refine (HVt.out _).mono ?_
  rintro e w11 ⟨rfl, e11⟩
  have Z11 := Lib.hid (show PZ w w11 R g T n c (I + 1) E D 7 t.a 0 by rw [e11]; exact (Z10.out.setX 0 (.int .i64 7) 7 0 rfl))
  clear e11
  obtain ⟨-, r1, rf, x0, x1, x2, x3, x4, xf, y, yf, -⟩ := Z11.out.cells
  have xf2 := xf 2
  have yf0 := yf 0
  have yf1 := yf 1
  have yf2 := yf 2
  have yf3 := yf 3
  have yf4 := yf 4
  obtain ⟨v0, y0⟩ := y 0 (by omega)
  obtain ⟨v1, y1⟩ := y 1 (by omega)
  obtain ⟨v2, y2⟩ := y 2 (by omega)
  obtain ⟨v3, y3⟩ := y 3 (by omega)
  obtain ⟨v4, y4⟩ := y 4 (by omega)
  have ZL := Lib.hid (Z11.out.setI (I + 2) ((I : Int) + 1 + 1) (by omega))
  have hR := Z11.out.lt
  have a1 : ¬ R = w.heap.size + 1 := by omega
  have a2 : ¬ g = w.heap.size + 1 := by omega
  have a3 : ¬ R = w.heap.size := by omega
  have a4 : ¬ g = w.heap.size := by omega
  have hfin := Lib.hid (And.intro ((((((ZL.out.rz.far a1 a2 2 (.int .u8 f)).far a3 a4 0 (.int .i64 7)).far a3 a4 1 (.int .i64 t.a)).far a3 a4 2 (.int .u8 f)).far a3 a4 3 (.string ⟨#[]⟩)).far a3 a4 4 (.slice none 0 0))
    ((((((ZL.out.fr.set (b := w.heap.size + 1) (.inr (by omega)) 2 (.int .u8 f)).set (b := w.heap.size) (.inr (Nat.le_refl _)) 0 (.int .i64 7)).set (b := w.heap.size) (.inr (Nat.le_refl _)) 1 (.int .i64 t.a)).set (b := w.heap.size) (.inr (Nat.le_refl _)) 2 (.int .u8 f)).set (b := w.heap.size) (.inr (Nat.le_refl _)) 3 (.string ⟨#[]⟩)).set (b := w.heap.size) (.inr (Nat.le_refl _)) 4 (.slice none 0 0)))
  clear xf y yf
  go_wp2
  refine bodyPost_ret (v := phV 7 t.a f) (by unfold phV; simp [results, Tryd.results83, go_sem, y0, y1, y2, y3, y4]) rfl ⟨rfl, hfin.out⟩
end Go.Proofs.YthdognmppbckbaaDoor
