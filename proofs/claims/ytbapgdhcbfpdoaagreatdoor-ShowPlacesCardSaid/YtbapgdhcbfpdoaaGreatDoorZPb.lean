/- Layer 4, put together: ParS, ParT, ParU, ParX, ParY. -/
import Derived.Deep.RegionLaw
import Derived.Deep.DrawnRows
import Derived.Deep.AppendLies
import Derived.KernelRfl
import Derived.Test.YtbapgdhcbfpdoaaGreatDoorZPa
import Derived.Deep.LoopGhost
/- Contracts of the reader: the closure of a phrase, settle. -/
namespace Go.Proofs.YtbapgdhcbfpdoaaGreatDoor
open Go.RowKit

theorem infoI : (Tryz.prog.info? 37).map (fun i => (i.zero, i.size, i.bytes)) = some (some (.agg #[.int .i64 0, .int .i64 0, .int .u8 0, .string ⟨#[]⟩, .slice none 0 0]), 5, 64) := by kernel_rfl
theorem IM.one (m : IM) : ∀ u ∈ m.cells, u.oneCell' = true := by
  intro u hu; simp [IM.cells] at hu; rcases hu with rfl | rfl | rfl | rfl | rfl <;> rfl
theorem IM.at {w : World} {b : Nat} {m : IM} {fr : Nat × Nat} (h : w.heap[b]? = some (.cells m.cells.toArray 37 fr)) : ∀ (j : Nat) (u : Value), m.cells[j]? = some u → w.cell? ((⟨b, 0, none⟩ : Addr).add j) = some u := by
  intro j u hj
  rw [WideShapes.add_plain, Nat.zero_add, cell_of_row _ _ _ _ _ _ h]
  simpa using hj
theorem up_drew (w : World) (o : Obj) : Below w.heap.size w (w.alloc o).drew := by
  have h := (Below.refl w.heap.size w).alloc (Nat.le_refl _) o
  exact ⟨h.os, h.tape, h.output, h.size, h.block⟩
attribute [local go_sem ↓] Go.wp_at_zero Go.wp_at_succ
def Clos (w : World) (R b o c : Nat) (k : Int) (ts : List Tk) (ms : List IM) (tm : List (Option TE)) (vi vt : Value) (e : TE) (x : Ending) (w' : World) : Prop :=
  x = .returned (.tuple #[]) ∧ ∃ vi', RS w' R b o c k ts (ms ++ [e.m]) tm vi' vt ∧ NR w.heap.size vi vi' ∧ Fr (Mu R vi vt) w w'
set_option maxRecDepth 100000 in
set_option maxHeartbeats 3200000 in
theorem clo_any (w : World) (R b o c : Nat) (k : Int) (ts : List Tk) (ms : List IM) (tm : List (Option TE)) (vi vt : Value) (h : RS w R b o c k ts ms tm vi vt) (e : TE) (he : Clo w R vi vt e) (hn : ms.length + 1 + tm.length + ts.length ≤ 1000000) : Calls Tryz.prog 97 #[.pointer (some ⟨e.Q, 0, none⟩), .pointer (some ⟨e.P, 0, none⟩)] w (Clos w R b o c k ts ms tm vi vt e) := by
  obtain ⟨i0, hi, hz0, hz1, hz2⟩ := info_parts infoI
  have HI := Lib.hid (And.intro hi (And.intro hz0 (And.intro hz1 hz2)))
  clear hi hz0 hz1 hz2
  obtain ⟨c0, c1, c2, c3, f0⟩ := h.cells
  have hlt := h.lt
  have hP := he.sp.1
  have hQ := he.sq.1
  have q0 : w.cell? ⟨e.Q, 0, none⟩ = some (.pointer (some ⟨R, 0, none⟩)) := by rw [cell_of_row _ _ _ _ _ _ he.hq]; rfl
  have p0 : w.cell? ⟨e.P, 0, none⟩ = some (.int .i64 e.m.it.how) := by rw [cell_of_row _ _ _ _ _ _ he.hp]; rfl
  have p1 : w.cell? ⟨e.P, 1, none⟩ = some (.int .i64 e.m.it.pl) := by rw [cell_of_row _ _ _ _ _ _ he.hp]; rfl
  have p2 : w.cell? ⟨e.P, 2, none⟩ = some (.int .u8 e.m.it.fn) := by rw [cell_of_row _ _ _ _ _ _ he.hp]; rfl
  have p3 : w.cell? ⟨e.P, 3, none⟩ = some (.string (bs e.m.it.nm)) := by rw [cell_of_row _ _ _ _ _ _ he.hp]; rfl
  have p4 : w.cell? ⟨e.P, 4, none⟩ = some (.slice e.m.A e.m.it.ns.length e.m.c) := by rw [cell_of_row _ _ _ _ _ _ he.hp]; rfl
  have hfr := f0 1
  clear f0
  obtain ⟨A, ci, rfl, hci⟩ := row_shape h.own
  have HS := Lib.hid h
  have HE := Lib.hid he
  clear h he
  have nR : (Value.slice A ms.length ci).ownBlock ≠ some R := fun h => by have := (row_base HS.out.own h).1; omega
  have nQ : (Value.slice A ms.length ci).ownBlock ≠ some e.Q := fun h => HE.out.sq.2 (.inr (.inl h))
  have nP : (Value.slice A ms.length ci).ownBlock ≠ some e.P := fun h => HE.out.sp.2 (.inr (.inl h))
  have hRQ : ¬ R = e.Q := fun h => HE.out.sq.2 (.inl h.symm)
  have hRP : ¬ R = e.P := fun h => HE.out.sp.2 (.inl h.symm)
  have HN := Lib.hid hn
  have hn1 : ms.length + 1 ≤ maxLen := by unfold maxLen; omega
  have hn2 : (ms.length + 1) * 64 ≤ 140737488355328 := by omega
  clear hn
  go_enter Tryz.func97, Tryz.ntmps97
  go_wp2_with fail
  go_region_law ((refine step_append_lies _ (by rfl) _ _ _ (by rfl) (R + 1) 37 i0 _ 5 64 Tryz.underlying31 HI.out.1 HI.out.2.1 HI.out.2.2.1 HI.out.2.2.2 rfl (by omega) (.slice A ms.length ci) ms.length (ms.flatMap IM.cells) (by rfl) ((HS.out.own.alloc _).drew) ⟨w.heap.size, 0, none⟩ 1 1 e.m.cells (by rfl) (by rfl) (World.news_of_block (cs := e.m.cells.toArray) (t := 37) (fr := (0, 0)) (heap_alloc_new w _)) (IM.one e.m) (by omega) hn1 hn2 (by simp; omega) (w.heap.size + 1) (by simp) ?_; intro gg cap w1 hown1 hgrow hat hlt1; have hw1 : w1.heap[R]? = w.heap[R]? := (hgrow.block R (by simp; omega) (Ne.symm nR)).trans (heap_alloc_old w _ hlt); have hq1 := (hgrow.cell_far (a := ⟨e.Q, 0, none⟩) (by simp; omega) (Ne.symm nQ)).trans ((World.cell?_of_block (w := w) (w' := (w.alloc (.cells e.m.cells.toArray 37)).drew) (a := ⟨e.Q, 0, none⟩) (heap_alloc_old w _ hQ)).trans q0); have hf1 := (World.frozen?_of_block (a := ⟨R, 1, none⟩) hw1).trans hfr; have hc1 := (World.cell?_of_block (a := ⟨R, 1, none⟩) hw1).trans c1))
  all_goals
    have hfin := HS.out.pushed e.m HE.out.num (w0 := (w.alloc (.cells e.m.cells.toArray 37)).drew) (up_drew _ _) hown1 hgrow (hat.imp id fun h => by omega) HN.out
    exact bodyPost_ret (v := .tuple #[]) (by simp [results, Tryz.results97, go_sem]) rfl ⟨rfl, _, hfin⟩
end Go.Proofs.YtbapgdhcbfpdoaaGreatDoor
/- Contract of the reader: settle. -/
namespace Go.Proofs.YtbapgdhcbfpdoaaGreatDoor
open Go.RowKit

/-- What is still to be done, one less. -/
theorem RS.popped {w : World} {R b o c : Nat} {k : Int} {ts : List Tk} {ms : List IM} {x : Option TE} {tm : List (Option TE)} {vi : Value} {A : Option Addr} {ct : Nat} (h : RS w R b o c k ts ms (x :: tm) vi (.slice A (tm.length + 1) ct)) :
    RS (w.setCell ⟨R, 2, none⟩ (.slice A tm.length ct)) R b o c k ts ms tm vi (.slice A tm.length ct) ∧ NR w.heap.size (.slice A (tm.length + 1) ct) (.slice A tm.length ct) ∧ Fr (fun k => k = R) w (w.setCell ⟨R, 2, none⟩ (.slice A tm.length ct)) := by
  have F0 : Fr (fun k => k = R) w (w.setCell ⟨R, 2, none⟩ (.slice A tm.length ct)) := (Fr.refl (fun k => k = R) _).set (.inl rfl) _ _
  have F2 := F0.weak (T := Mu R vi (.slice A (tm.length + 1) ct)) fun i _ hi => .inl hi
  have N : NR w.heap.size (.slice A (tm.length + 1) ct) (.slice A tm.length ct) := fun k hk => .inl (by cases A with
    | none => simp [Value.ownBlock] at hk
    | some a => simpa [Value.ownBlock] using hk)
  have hb := h.bnd
  simp only [List.length_cons] at hb
  have ht := h.owt
  rw [List.reverse_cons, List.map_append] at ht
  refine ⟨h.next (us := []) F2 (NR.refl _ _) N (by rw [heap_setCell_same _ _ _ _ _ _ h.blk]; rfl) h.cap rfl (by simp) (rowR h.own F0) (rowR (row_pop ht (by simp) (by simp)) F0) (fun m hm => .inl hm) (fun e he => .inl (by simp [he])) (by omega), N, F0⟩
theorem RS.top {w : World} {R b o c : Nat} {k : Int} {ts : List Tk} {ms : List IM} {x : Option TE} {tm : List (Option TE)} {vi vt : Value} (h : RS w R b o c k ts ms (x :: tm) vi vt) : ∃ g ct, vt = .slice (some ⟨g, 0, none⟩) (tm.length + 1) ct ∧ tm.length + 1 ≤ ct ∧ g < w.heap.size ∧ w.cell? ⟨g, tm.length, none⟩ = some (tval x) := by
  have ht := h.owt
  obtain ⟨g, ct, rfl, _, hg⟩ := ht.form (by simp)
  refine ⟨g, ct, rfl, ?_, hg, ?_⟩
  · obtain ⟨_, _, e, hc⟩ := row_shape ht
    injection e with _ _ e3
    subst e3
    exact hc
  · have h1 := World.ownsRow.cellAt ht tm.length (by simp)
    rw [h1, List.reverse_cons, List.map_append, List.getElem?_append_right (by simp)]
    simp
/-- What settling answers. -/
def Sett (w : World) (R b o c : Nat) (k : Int) (ts : List Tk) (ms : List IM) (tm : List (Option TE)) (vi vt : Value) (x : Ending) (w' : World) : Prop :=
  x = .returned (.tuple #[]) ∧ ∃ ms' tm' vi' vt', RS w' R b o c k ts ms' tm' vi' vt' ∧ settleL (ms.map (·.it)) (tm.map titem) = (ms'.map (·.it), tm'.map titem) ∧ NR w.heap.size vi vi' ∧ NR w.heap.size vt vt' ∧ Fr (Mu R vi vt) w w'
/-- From one state of the reader to another one. -/
structure Go2 (w : World) (R : Nat) (vi vt : Value) (w' : World) (vi' vt' : Value) : Prop where
  ni : NR w.heap.size vi vi'
  nt : NR w.heap.size vt vt'
  fr : Fr (Mu R vi vt) w w'
theorem Go2.refl (w : World) (R : Nat) (vi vt : Value) : Go2 w R vi vt w vi vt := ⟨NR.refl _ _, NR.refl _ _, Fr.refl _ _⟩
theorem Go2.trans {w w1 w2 : World} {R : Nat} {a b a1 b1 a2 b2 : Value} (h : Go2 w R a b w1 a1 b1) (g : Go2 w1 R a1 b1 w2 a2 b2) : Go2 w R a b w2 a2 b2 :=
  ⟨h.ni.trans g.ni h.fr.size, h.nt.trans g.nt h.fr.size, h.fr.trans' g.fr fun i hi => by
    rcases hi with h1 | h1 | h1
    · exact .inl (.inl h1)
    · exact (h.ni i h1).imp (fun h => .inr (.inl h)) id
    · exact (h.nt i h1).imp (fun h => .inr (.inr h)) id⟩
theorem Go2.ofR {w w' : World} {R : Nat} {vi vt vt' : Value} (h : Fr (fun k => k = R) w w') (n : NR w.heap.size vt vt') : Go2 w R vi vt w' vi vt' := ⟨NR.refl _ _, n, h.weak fun _ _ hi => .inl hi⟩
theorem Go2.below {w w' w2 : World} {R : Nat} {vi vt vi' vt' : Value} (h : Go2 w R vi vt w' vi' vt') (hb : Below w'.heap.size w' w2) : Go2 w R vi vt w2 vi' vt' := ⟨h.ni, h.nt, h.fr.trans (below_fr hb _)⟩
theorem nilF (w : World) : (binOp .eql 1 .nilFunc .nilFunc).run Tryz.prog w = .ok (.bool true) w := by kernel_rfl
theorem notF (f : Fn) (a b : Array Value) (w : World) : (binOp .eql 1 (.func f a b) .nilFunc).run Tryz.prog w = .ok (.bool false) w := by kernel_rfl
def SInv (w : World) (R b o c : Nat) (k : Int) (ts : List Tk) (ms : List IM) (tm : List (Option TE)) (vi vt : Value) (ms' : List IM) (tm' : List (Option TE)) (vi' vt' : Value) (wx : World) : Prop :=
  RS wx R b o c k ts ms' tm' vi' vt' ∧ settleL (ms.map (·.it)) (tm.map titem) = settleL (ms'.map (·.it)) (tm'.map titem) ∧ Go2 w R vi vt wx vi' vt'
set_option maxHeartbeats 2000000 in
set_option maxRecDepth 100000 in
theorem settle_any (w : World) (R b o c : Nat) (k : Int) (ts : List Tk) (ms : List IM) (tm : List (Option TE)) (vi vt : Value) (h : RS w R b o c k ts ms tm vi vt) : Calls Tryz.prog 76 #[.pointer (some ⟨R, 0, none⟩)] w (Sett w R b o c k ts ms tm vi vt) := by
  have HS := Lib.hid h
  clear h
  go_enter Tryz.func76, Tryz.ntmps76
  go_wp2
  go_loopg [2] tm.length (fun g s1 wx => ∃ ms' tm' vi' vt', tm'.length = g ∧ Hid (SInv w R b o c k ts ms tm vi vt ms' tm' vi' vt' wx))
  case atStart => exact ⟨ms, tm, vi, vt, rfl, HS.out, rfl, Go2.refl _ _ _ _⟩
  case round =>
    obtain ⟨ms', tm', vi', vt', hg, HI⟩ := hrel
    obtain ⟨c0, c1, c2, c3, f0⟩ := HI.out.1.cells
    have hlt := HI.out.1.lt
    have hfr := f0 2
    clear f0
    cases tm' with
    | nil =>
      obtain rfl : gk = 0 := hg.symm
      obtain ⟨A, ct, rfl, hct⟩ := row_shape HI.out.1.owt
      have hset : Sett w R b o c k ts ms tm vi vt (.returned (.tuple #[])) wr := ⟨rfl, ms', [], vi', _, HI.out.1, HI.out.2.1, HI.out.2.2.ni, HI.out.2.2.nt, HI.out.2.2.fr⟩
      have HF := Lib.hid hset
      clear hset
      go_wp2
      exact bodyPost_ret (v := .tuple #[]) (by simp [results, Tryz.results76, go_sem]) rfl HF.out
    | cons x tm' =>
      obtain rfl : gk = tm'.length + 1 := hg.symm
      obtain ⟨g, ct, rfl, hct, hg, htop⟩ := HI.out.1.top
      have hb := HI.out.1.bnd
      simp only [List.length_cons] at hb
      have hdr : ∀ m : Nat, Below wr.heap.size wr (wr.drewN m) := fun m => below_drewN (Below.refl _ _) (Nat.le_refl _)
      have hpop := fun m : Nat => (HI.out.1.keep (hdr m)).popped
      have hcl : ∀ e, x = some e → ∀ m : Nat, Clo ((wr.drewN m).setCell ⟨R, 2, none⟩ (.slice (some ⟨g, 0, none⟩) tm'.length ct)) R vi' (.slice (some ⟨g, 0, none⟩) tm'.length ct) e := fun e he m =>
        ((HI.out.1.keep (hdr m)).clo e (by simp [he])).next ((hpop m).2.2.weak fun _ _ hi => .inl hi) (NR.refl _ _) (hpop m).2.1
      have hgo : ∀ m : Nat, Go2 w R vi vt ((wr.drewN m).setCell ⟨R, 2, none⟩ (.slice (some ⟨g, 0, none⟩) tm'.length ct)) vi' (.slice (some ⟨g, 0, none⟩) tm'.length ct) := fun m =>
        (HI.out.2.2.below (hdr m)).trans (Go2.ofR (hpop m).2.2 (hpop m).2.1)
      have hse := HI.out.2.1
      have HC := Lib.hid hcl
      have HP := Lib.hid (And.intro (fun m => (hpop m).1) (And.intro hgo hse))
      clear hpop hcl hdr hgo hse
      cases x with
      | none =>
        replace htop : wr.cell? ⟨g, tm'.length, none⟩ = some .nilFunc := htop
        have hq1 := nilF
        go_wp2
        go_quiet (fail)
        go_wp2
        go_region
        go_wp2
        exact bodyPost_ret (v := .tuple #[]) (by simp [results, Tryz.results76, go_sem]) rfl ⟨rfl, ms', tm', vi', _, HP.out.1 (nq + 1), HP.out.2.2, (HP.out.2.1 (nq + 1)).ni, (HP.out.2.1 (nq + 1)).nt, (HP.out.2.1 (nq + 1)).fr⟩
      | some e =>
        replace htop : wr.cell? ⟨g, tm'.length, none⟩ = some (.func (.func 97) #[] #[.pointer (some ⟨e.Q, 0, none⟩), .pointer (some ⟨e.P, 0, none⟩)]) := htop
        have hq2 := fun f a b w => notF f a b w
        go_wp2
        go_quiet (fail)
        go_wp2
        go_region
        go_wp2_with (go_at_call 97; refine (clo_any _ R b o c k ts ms' tm' vi' _ (HP.out.1 _) e (HC.out e rfl _) (by omega)).mono ?_; rintro x w2 ⟨rfl, vi2, hs2, n2, f2⟩; have H2 := Lib.hid (And.intro hs2 (And.intro n2 f2)); clear hs2 n2 f2)
        go_roundg tm'.length
        case measure => omega
        case rel => exact ⟨ms' ++ [e.m], tm', vi2, _, rfl, H2.out.1, by rw [HP.out.2.2, List.map_append]; rfl, (HP.out.2.1 (nq + 1)).trans ⟨H2.out.2.1, NR.refl _ _, H2.out.2.2⟩⟩
end Go.Proofs.YtbapgdhcbfpdoaaGreatDoor
/- Contract of the reader: phrase. -/
namespace Go.Proofs.YtbapgdhcbfpdoaaGreatDoor
open Go.RowKit

def Mrk (w : World) (R b o : Nat) (k : Int) (m : List UInt8) (ts0 ts : List Tk) (ms : List IM) (tm : List (Option TE)) (vi vt : Value) (e : Ending) (w' : World) : Prop :=
  e = .returned (.string (bs m)) ∧ ∃ o' c' us, ts0 = us ++ ts ∧ o' = o + us.length * 4 ∧ RS w' R b o' c' k ts ms tm vi vt ∧ Fr (fun k => k = R) w w'
theorem mark_any (w : World) (R b o c : Nat) (k : Int) (t : Tk) (ts : List Tk) (ms : List IM) (tm : List (Option TE)) (vi vt : Value) (h : RS w R b o c k (t :: ts) ms tm vi vt) (hne : 0 < (mk (t :: ts)).2.length) (m : List UInt8) (us : List Tk) (hm : mk (t :: ts) = (m, us)) : Calls Tryz.prog 95 #[.pointer (some ⟨R, 0, none⟩)] w (Mrk w R b o k m (t :: ts) us ms tm vi vt) := by
  by_cases hw : t.w = [47] ∨ t.w = [92] ∨ t.w = [46]
  · have e : mk (t :: ts) = (t.w, ts) := by simp only [mk]; rw [if_pos hw]
    rw [e] at hm hne
    injection hm with e1 e2
    subst e1 e2
    exact (mark_yes w R b o c k t ts ms tm vi vt h hne hw).mono fun x w' ⟨h1, h2, h3⟩ => ⟨h1, _, _, [t], rfl, by simp, h2, h3⟩
  · have e : mk (t :: ts) = ([], t :: ts) := by simp only [mk]; rw [if_neg hw]
    rw [e] at hm
    injection hm with e1 e2
    subst e1 e2
    exact (mark_no w R b o c k t ts ms tm vi vt h hw).mono fun x w' ⟨h1, h2, h3⟩ => ⟨h1, _, _, [], rfl, by simp, h2, h3⟩
theorem box1 (w : World) (x y : Obj) : ((w.alloc x).alloc y).heap[w.heap.size]? = some x := (heap_alloc_old (w.alloc x) y (by simp)).trans (heap_alloc_new w x)
theorem box2 (w : World) (x y : Obj) : ((w.alloc x).alloc y).heap[w.heap.size + 1]? = some y := by
  have h := heap_alloc_new (w.alloc x) y
  rw [show (w.alloc x).heap.size = w.heap.size + 1 by simp] at h
  exact h
theorem size2 (w : World) (x y : Obj) : ((w.alloc x).alloc y).heap.size = w.heap.size + 2 := by simp
theorem frR {w w' : World} {R b : Nat} {x : Option Obj} (h : Fr (fun k => k = R) w w') (hx : w.heap[b]? = x) (hb : b < w.heap.size) (hR : R < b) : w'.heap[b]? = x := (h.block b hb (by omega)).trans hx
/-- What is laid, below a reader. -/
def LaidR (w : World) (R : Nat) : Prop := ∃ w0, LaidP w0 ∧ w0.heap.size ≤ R ∧ Below w0.heap.size w0 w
theorem LaidR.laid {w : World} {R : Nat} (h : LaidR w R) : LaidP w := by
  obtain ⟨w0, h1, _, h3⟩ := h
  exact h1.below h3
theorem LaidR.fr {w w' : World} {R : Nat} {S : Nat → Prop} (h : LaidR w R) (hF : Fr S w w') (hS : ∀ k, S k → R ≤ k) : LaidR w' R := by
  obtain ⟨w0, h1, h2, h3⟩ := h
  exact ⟨w0, h1, h2, h3.trans (hF.below h3.size fun k hk => Nat.le_trans h2 (hS k hk))⟩
theorem LaidR.frR {w w' : World} {R : Nat} (h : LaidR w R) (hF : Fr (fun k => k = R) w w') : LaidR w' R := h.fr hF fun k hk => by omega
theorem LaidR.below {w w' : World} {R : Nat} (h : LaidR w R) (hF : Below w.heap.size w w') : LaidR w' R := h.fr (below_fr hF (fun _ => False)) fun _ h => h.elim
/-- The blocks of a phrase's own variables: n: the reader's address, n + 1: the answer, S: the verb's token, S + 1: the item. -/
structure Fx (w : World) (R n S : Nat) (t : Tk) (hv : Value) : Prop where
  q : w.heap[n]? = some (.cells #[.pointer (some ⟨R, 0, none⟩)] 144 (0, 0))
  f : w.heap[n + 1]? = some (.cells #[.int .i64 0, .int .i64 0] 41 (0, 0))
  s : w.heap[S]? = some (.cells #[.int .i64 t.k, .int .i64 t.a, .string (bs t.w), .int .i64 t.n] 56 (0, 0))
  p : w.heap[S + 1]? = some (.cells #[hv, .int .i64 t.a, .int .u8 0, .string ⟨#[]⟩, .slice none 0 0] 37 (0, 0))
  l : n + 1 < S ∧ S + 1 < w.heap.size ∧ R < n
theorem Fx.fr {w w' : World} {R n S : Nat} {t : Tk} {hv : Value} (h : Fx w R n S t hv) (hF : Fr (fun k => k = R) w w') : Fx w' R n S t hv := by
  obtain ⟨l1, l2, l3⟩ := h.l
  have hs := hF.size
  exact ⟨frR hF h.q (by omega) (by omega), frR hF h.f (by omega) (by omega), frR hF h.s (by omega) (by omega), frR hF h.p (by omega) (by omega), l1, by omega, l3⟩
theorem Fx.gr {w w' : World} {R n S : Nat} {t : Tk} {hv : Value} (h : Fx w R n S t hv) (hg : Gr w w') : Fx w' R n S t hv := h.fr (below_fr hg.below _)
theorem Fx.cells {w : World} {R n S : Nat} {t : Tk} {hv : Value} (h : Fx w R n S t hv) :
    (w.cell? ⟨n, 0, none⟩ = some (.pointer (some ⟨R, 0, none⟩))) ∧
    (w.cell? ⟨n + 1, 0, none⟩ = some (.int .i64 0) ∧ w.cell? ⟨n + 1, 1, none⟩ = some (.int .i64 0) ∧ w.frozen? ⟨n + 1, 0, none⟩ = false ∧ w.frozen? ⟨n + 1, 1, none⟩ = false) ∧
    (w.cell? ⟨S, 0, none⟩ = some (.int .i64 t.k) ∧ w.cell? ⟨S, 1, none⟩ = some (.int .i64 t.a) ∧ w.cell? ⟨S, 2, none⟩ = some (.string (bs t.w)) ∧ w.cell? ⟨S, 3, none⟩ = some (.int .i64 t.n)) ∧
    (w.cell? ⟨S + 1, 0, none⟩ = some hv ∧ w.cell? ⟨S + 1, 1, none⟩ = some (.int .i64 t.a) ∧ w.cell? ⟨S + 1, 2, none⟩ = some (.int .u8 0) ∧ w.cell? ⟨S + 1, 3, none⟩ = some (.string ⟨#[]⟩) ∧ w.cell? ⟨S + 1, 4, none⟩ = some (.slice none 0 0)) ∧
    (w.frozen? ⟨S + 1, 0, none⟩ = false ∧ w.frozen? ⟨S + 1, 2, none⟩ = false) := by
  refine ⟨?_, ⟨?_, ?_, ?_, ?_⟩, ⟨?_, ?_, ?_, ?_⟩, ⟨?_, ?_, ?_, ?_, ?_⟩, ?_, ?_⟩
  · rw [cell_of_row _ _ _ _ _ _ h.q]; rfl
  · rw [cell_of_row _ _ _ _ _ _ h.f]; rfl
  · rw [cell_of_row _ _ _ _ _ _ h.f]; rfl
  · exact frozen_of_row _ _ _ _ _ h.f
  · exact frozen_of_row _ _ _ _ _ h.f
  · rw [cell_of_row _ _ _ _ _ _ h.s]; rfl
  · rw [cell_of_row _ _ _ _ _ _ h.s]; rfl
  · rw [cell_of_row _ _ _ _ _ _ h.s]; rfl
  · rw [cell_of_row _ _ _ _ _ _ h.s]; rfl
  · rw [cell_of_row _ _ _ _ _ _ h.p]; rfl
  · rw [cell_of_row _ _ _ _ _ _ h.p]; rfl
  · rw [cell_of_row _ _ _ _ _ _ h.p]; rfl
  · rw [cell_of_row _ _ _ _ _ _ h.p]; rfl
  · rw [cell_of_row _ _ _ _ _ _ h.p]; rfl
  · exact frozen_of_row _ _ _ _ _ h.p
  · exact frozen_of_row _ _ _ _ _ h.p
theorem Fx.make {w w1 : World} {R : Nat} {t : Tk} (hR : R < w.heap.size) (f1 : Fr (fun k => k = R) ((w.alloc (.cells #[.pointer (some ⟨R, 0, none⟩)] 144)).alloc (.cells #[.int .i64 0, .int .i64 0] 41)) w1) :
    Fx ((w1.alloc (.cells #[.int .i64 t.k, .int .i64 t.a, .string (bs t.w), .int .i64 t.n] 56)).alloc (.cells #[.int .i64 0, .int .i64 t.a, .int .u8 0, .string ⟨#[]⟩, .slice none 0 0] 37)) R w.heap.size w1.heap.size t (.int .i64 0) := by
  have hz := f1.size
  rw [size2] at hz
  have o : ∀ k, k < w1.heap.size → ((w1.alloc (.cells #[.int .i64 t.k, .int .i64 t.a, .string (bs t.w), .int .i64 t.n] 56)).alloc (.cells #[.int .i64 0, .int .i64 t.a, .int .u8 0, .string ⟨#[]⟩, .slice none 0 0] 37)).heap[k]? = w1.heap[k]? := fun k hk =>
    (heap_alloc_old (w1.alloc _) _ (by simp; omega)).trans (heap_alloc_old w1 _ hk)
  refine ⟨(o _ (by omega)).trans (frR f1 (box1 w _ _) (by rw [size2]; omega) hR), (o _ (by omega)).trans (frR f1 (box2 w _ _) (by rw [size2]; omega) (by omega)), box1 w1 _ _, box2 w1 _ _, by omega, by simp, hR⟩
theorem Fx.set0 {w : World} {R n S : Nat} {t : Tk} {hv : Value} (h : Fx w R n S t hv) (v : Value) : Fx (w.setCell ⟨S + 1, 0, none⟩ v) R n S t v := by
  obtain ⟨l1, l2, l3⟩ := h.l
  exact ⟨(Fr.set.heap_set_other (by omega)).trans h.q, (Fr.set.heap_set_other (by omega)).trans h.f, (Fr.set.heap_set_other (by omega)).trans h.s, by rw [heap_setCell_same _ _ _ _ _ _ h.p]; rfl, l1, by simpa using l2, l3⟩
theorem LaidR.set {w : World} {R P : Nat} (h : LaidR w R) (hP : R ≤ P) (o : Nat) (v : Value) : LaidR (w.setCell ⟨P, o, none⟩ v) R := h.fr (S := fun k => k = P) ((Fr.refl (fun k => k = P) w).set (.inl rfl) _ _) fun k hk => by omega
theorem up {w : World} (o : Obj) : Below w.heap.size w (w.alloc o) := (Below.refl _ _).alloc (Nat.le_refl _) _
theorem Fx.q1 {w w1 : World} {R : Nat} (hR : R < w.heap.size) (f1 : Fr (fun k => k = R) ((w.alloc (.cells #[.pointer (some ⟨R, 0, none⟩)] 144)).alloc (.cells #[.int .i64 0, .int .i64 0] 41)) w1) : w1.cell? ⟨w.heap.size, 0, none⟩ = some (.pointer (some ⟨R, 0, none⟩)) := by
  have h := frR f1 (box1 w _ _) (by rw [size2]; omega) hR
  rw [cell_of_row _ _ _ _ _ _ h]; rfl
theorem infoFn : (Tryz.prog.info? 1).map (fun i => (i.zero, i.size, i.bytes)) = some (some .nilFunc, 1, 8) := by kernel_rfl
/-- A thing more to be done. -/
theorem RS.queued {w w0 w1 : World} {R b o c : Nat} {k : Int} {ts : List Tk} {ms : List IM} {tm : List (Option TE)} {vi vt : Value} (h : RS w R b o c k ts ms tm vi vt) (x : Option TE) (hx : ∀ e, x = some e → Clo w R vi vt e) (hb : Below w.heap.size w w0) {g cap : Nat}
    (hown : w1.ownsRow (R + 1) 1 1 (.slice (some ⟨g, 0, none⟩) (tm.length + 1) cap) (tm.length + 1) (tm.reverse.map tval ++ [tval x])) (hgrow : w0.grownBy w1 vt.ownBlock) (hat : vt.ownBlock = some g ∨ w.heap.size ≤ g) (hn : ms.length + 1 + tm.length + ts.length ≤ 1000000) :
    RS (w1.setCell ⟨R, 2, none⟩ (.slice (some ⟨g, 0, none⟩) (tm.length + 1) cap)) R b o c k ts ms (x :: tm) vi (.slice (some ⟨g, 0, none⟩) (tm.length + 1) cap) ∧ Go2 w R vi vt (w1.setCell ⟨R, 2, none⟩ (.slice (some ⟨g, 0, none⟩) (tm.length + 1) cap)) vi (.slice (some ⟨g, 0, none⟩) (tm.length + 1) cap) := by
  have F1 : Fr (fun k => k = R ∨ vt.ownBlock = some k) w w1 := (below_fr hb _).trans (Fr.grown hgrow _ fun k hk => .inr hk)
  have F0 := F1.set (.inl (.inl rfl) : (R = R ∨ vt.ownBlock = some R) ∨ _) 2 (.slice (some ⟨g, 0, none⟩) (tm.length + 1) cap)
  have F2 := F0.weak (T := Mu R vi vt) fun i _ hi => hi.elim .inl fun h => .inr (.inr h)
  have hR : w1.heap[R]? = w.heap[R]? := (hgrow.block R (Nat.lt_of_lt_of_le h.lt hb.size) (fun e => by have := (row_base h.owt e.symm).1; omega)).trans (hb.block R h.lt)
  have hg := (row_base hown (k := g) rfl).1
  have N := NR.of (m := tm.length + 1) (c := cap) hat rfl
  refine ⟨h.next (us := []) F2 (NR.refl _ _) N (by rw [heap_setCell_same _ _ _ _ _ _ (hR.trans h.blk)]; rfl) h.cap rfl (by simp) ?_ ?_ (fun m hm => .inl hm) ?_ (by simp; omega), NR.refl _ _, N, F2⟩
  · exact row_keep h.own (fun k hk hl => F0.block k hl (by
      rintro (h1 | h1)
      · have := (row_base h.own hk).1; omega
      · exact rows_ne h.own h.owt (by decide) hk h1)) (Nat.le_refl _)
  · rw [List.reverse_cons, List.map_append]
    exact ownsRow_setCell_other (a := ⟨R, 2, none⟩) hown (by simp [Value.ownBlock]; omega) _
  · intro e he
    simp at he
    rcases he with he | he
    · exact .inr ((hx e he.symm).next F2 (NR.refl _ _) N)
    · exact .inl he
/-- What a phrase leaves. -/
theorem phrase_final {w W : World} {R b o c : Nat} {k : Int} {ts0 : List Tk} {ms : List IM} {tm : List (Option TE)} {vi vt : Value} (h : RS w R b o c k ts0 ms tm vi vt) {o' c' : Nat} {pre us : List Tk} {g cap : Nat} {E : TE} (F : Fr (fun j => j = R ∨ vt.ownBlock = some j) w W)
    (hR : W.heap[R]? = some (.cells #[.slice (some ⟨b, o', none⟩) us.length c', vi, .slice (some ⟨g, 0, none⟩) (tm.length + 1) cap, .int .i64 k] 121 (0, 0))) (hts : ts0 = pre ++ us) (ho : o' = o + pre.length * 4) (hc : us.length ≤ c') (hp : 0 < pre.length)
    (howt : W.ownsRow (R + 1) 1 1 (.slice (some ⟨g, 0, none⟩) (tm.length + 1) cap) (tm.length + 1) (tm.reverse.map tval ++ [tval (some E)])) (hat : vt.ownBlock = some g ∨ E.P < g ∧ E.Q < g) (hP : w.heap.size ≤ E.P ∧ E.P < W.heap.size) (hQ : w.heap.size ≤ E.Q ∧ E.Q < W.heap.size)
    (hq : W.heap[E.Q]? = some (.cells #[.pointer (some ⟨R, 0, none⟩)] 144 (0, 0))) (hpp : W.heap[E.P]? = some (.cells E.m.cells.toArray 37 (0, 0))) (hn : E.m.it.ns = []) :
    RS W R b o' c' k us ms (some E :: tm) vi (.slice (some ⟨g, 0, none⟩) (tm.length + 1) cap) ∧ Go2 w R vi vt W vi (.slice (some ⟨g, 0, none⟩) (tm.length + 1) cap) := by
  have hRl := h.lt
  have N : NR w.heap.size vt (.slice (some ⟨g, 0, none⟩) (tm.length + 1) cap) := NR.of (hat.imp id fun h => by omega) rfl
  have F2 := F.weak (T := Mu R vi vt) fun i _ hi => hi.elim .inl fun h => .inr (.inr h)
  have hb := h.bnd
  rw [hts, List.length_append] at hb
  have far : ∀ j, w.heap.size ≤ j → j < W.heap.size → (vt.ownBlock = some g ∨ j < g) → Sf W R vi (.slice (some ⟨g, 0, none⟩) (tm.length + 1) cap) j := fun j h1 h2 h3 => ⟨h2, by
    rintro (h4 | h4 | h4)
    · omega
    · have := (row_base h.own h4).2; omega
    · simp [Value.ownBlock] at h4
      rcases h3 with h3 | h3
      · have := (row_base h.owt h3).2; omega
      · omega⟩
  refine ⟨h.next F2 (NR.refl _ _) N hR hc hts ho ?_ (by rw [List.reverse_cons, List.map_append]; exact howt) (fun m hm => .inl hm) ?_ (by simp; omega), NR.refl _ _, N, F2⟩
  · exact row_keep h.own (fun j hk hl => F.block j hl (by
      rintro (h1 | h1)
      · have := (row_base h.own hk).1; omega
      · exact rows_ne h.own h.owt (by decide) hk h1)) (Nat.le_refl _)
  · intro e he
    simp at he
    rcases he with he | he
    · subst he
      exact .inr ⟨far _ hP.1 hP.2 (hat.imp id fun h => h.1), far _ hQ.1 hQ.2 (hat.imp id fun h => h.2), hq, hpp, by rw [hn]; exact RdN.nil _ _ _⟩
    · exact .inl he
theorem phrase_close {w W3 w4 : World} {R b o c : Nat} {k : Int} {ts0 : List Tk} {ms : List IM} {tm : List (Option TE)} {vi : Value} {A : Option Addr} {ct : Nat} (h : RS w R b o c k ts0 ms tm vi (.slice A tm.length ct)) {o' c' : Nat} {pre us : List Tk} {g cap : Nat} {E : TE} {x : Obj}
    (F3 : Fr (fun j => j = R) w W3) (hR3 : W3.heap[R]? = some (.cells #[.slice (some ⟨b, o', none⟩) us.length c', vi, .slice A tm.length ct, .int .i64 k] 121 (0, 0)))
    (hq : W3.heap[E.Q]? = some (.cells #[.pointer (some ⟨R, 0, none⟩)] 144 (0, 0))) (hpp : W3.heap[E.P]? = some (.cells E.m.cells.toArray 37 (0, 0)))
    (hgrow : (W3.alloc x).drew.grownBy w4 (Value.slice A tm.length ct).ownBlock) (howt : w4.ownsRow (R + 1) 1 1 (.slice (some ⟨g, 0, none⟩) (tm.length + 1) cap) (tm.length + 1) (tm.reverse.map tval ++ [tval (some E)]))
    (hat : (Value.slice A tm.length ct).ownBlock = some g ∨ g = W3.heap.size + 1) (hts : ts0 = pre ++ us) (ho : o' = o + pre.length * 4) (hc : us.length ≤ c') (hpl : 0 < pre.length) (eQ : E.Q = w.heap.size) (lP : w.heap.size + 1 < E.P) (hn : E.m.it.ns = []) :
    RS (((w4.setCell ⟨R, 2, none⟩ (.slice (some ⟨g, 0, none⟩) (tm.length + 1) cap)).setCell ⟨w.heap.size + 1, 0, none⟩ (.int .i64 0)).setCell ⟨w.heap.size + 1, 1, none⟩ (.int .i64 0)) R b o' c' k us ms (some E :: tm) vi (.slice (some ⟨g, 0, none⟩) (tm.length + 1) cap) ∧
    Go2 w R vi (.slice A tm.length ct) (((w4.setCell ⟨R, 2, none⟩ (.slice (some ⟨g, 0, none⟩) (tm.length + 1) cap)).setCell ⟨w.heap.size + 1, 0, none⟩ (.int .i64 0)).setCell ⟨w.heap.size + 1, 1, none⟩ (.int .i64 0)) vi (.slice (some ⟨g, 0, none⟩) (tm.length + 1) cap) := by
  have hlt : ∀ {W : World} {j : Nat} {y : Obj}, W.heap[j]? = some y → j < W.heap.size := fun {W j y} h => by
    rcases Nat.lt_or_ge j W.heap.size with h1 | h1
    · exact h1
    · rw [Array.getElem?_eq_none h1] at h; cases h
  have hRl := h.lt
  have hn0 : ∀ j, (Value.slice A tm.length ct).ownBlock = some j → R < j ∧ j < w.heap.size := fun j hj => by have := row_base h.owt hj; omega
  have hk4 : ∀ j, j < W3.heap.size → (Value.slice A tm.length ct).ownBlock ≠ some j → w4.heap[j]? = W3.heap[j]? := fun j hj hn => ((hgrow.block j (by simp; omega) (Ne.symm hn)).trans (heap_alloc_old W3 _ hj))
  have hz := hgrow.size
  have hz : W3.heap.size + 1 ≤ w4.heap.size := by simpa using hz
  have hg := (row_base howt (k := g) rfl)
  have hz2 : ∀ (W : World) (a : Addr) (v : Value), (W.setCell a v).heap.size = W.heap.size := fun W a v => by simp
  have gn : g ≠ w.heap.size + 1 := by
    rcases hat with h1 | h1
    · have := hn0 _ h1; omega
    · have := hlt hpp; omega
  have F : Fr (fun j => j = R ∨ (Value.slice A tm.length ct).ownBlock = some j) w w4 :=
    ((F3.weak fun i _ hi => .inl hi).trans (below_fr (up_drew W3 x) _)).trans (Fr.grown hgrow _ fun j hj => .inr hj)
  have FF := ((F.set (.inl (.inl rfl) : (R = R ∨ (Value.slice A tm.length ct).ownBlock = some R) ∨ _) 2 (.slice (some ⟨g, 0, none⟩) (tm.length + 1) cap)).set (b := w.heap.size + 1) (.inr (by omega)) 0 (.int .i64 0)).set (b := w.heap.size + 1) (.inr (by omega)) 1 (.int .i64 0)
  have hoth : ∀ j, j ≠ R → j ≠ w.heap.size + 1 → (((w4.setCell ⟨R, 2, none⟩ (.slice (some ⟨g, 0, none⟩) (tm.length + 1) cap)).setCell ⟨w.heap.size + 1, 0, none⟩ (.int .i64 0)).setCell ⟨w.heap.size + 1, 1, none⟩ (.int .i64 0)).heap[j]? = w4.heap[j]? := fun j h1 h2 => by
    rw [Fr.set.heap_set_other h2, Fr.set.heap_set_other h2, Fr.set.heap_set_other h1]
  have lR : R < W3.heap.size := hlt hR3
  have nn : ∀ j, w.heap.size ≤ j → (Value.slice A tm.length ct).ownBlock ≠ some j := fun j hj e => by have := hn0 _ e; omega
  refine phrase_final h FF ?_ hts ho hc hpl ?_ ?_ ?_ ?_ ?_ ?_ hn
  · rw [Fr.set.heap_set_other (by omega), Fr.set.heap_set_other (by omega), heap_setCell_same _ _ _ _ _ _ ((hk4 R lR (fun e => by have := hn0 _ e; omega)).trans hR3)]; rfl
  · exact ownsRow_setCell_other (a := ⟨w.heap.size + 1, 1, none⟩) (ownsRow_setCell_other (a := ⟨w.heap.size + 1, 0, none⟩) (ownsRow_setCell_other (a := ⟨R, 2, none⟩) howt (by simp [Value.ownBlock]; omega) _) (by simp [Value.ownBlock]; omega) _) (by simp [Value.ownBlock]; omega) _
  · refine hat.imp id fun h1 => ?_
    have := hlt hpp
    have := hlt hq
    omega
  · refine ⟨by omega, ?_⟩
    rw [hz2, hz2, hz2]
    have := hlt hpp
    omega
  · refine ⟨by omega, ?_⟩
    rw [hz2, hz2, hz2]
    have := hlt hq
    omega
  · rw [hoth _ (by omega) (by omega), hk4 _ (hlt hq) (nn _ (by omega))]; exact hq
  · rw [hoth _ (by omega) (by omega), hk4 _ (hlt hpp) (nn _ (by omega))]; exact hpp
/-- What a phrase answers. -/
def Phr (w : World) (R b : Nat) (k : Int) (t : Tk) (x : Int × Int) (us : List Tk) (ms : List IM) (tm : List (Option TE)) (vi vt : Value) (e : Ending) (w' : World) : Prop :=
  (x.2 = 0 ∧ e = .returned (.agg #[.int .i64 t.a, .int .i64 43]) ∧ Fr (Mu R vi vt) w w') ∨
  (x.2 ≠ 0 ∧ e = .returned (.agg #[.int .i64 0, .int .i64 0]) ∧ ∃ o' c' E vt', RS w' R b o' c' k us ms (some E :: tm) vi vt' ∧ E.m.it = ⟨x.1, t.a, x.2, [], []⟩ ∧ Go2 w R vi vt w' vi vt')
end Go.Proofs.YtbapgdhcbfpdoaaGreatDoor
/- Contract of the reader: operand. Written by gen_x.py. -/
namespace Go.Proofs.YtbapgdhcbfpdoaaGreatDoor
open Go.RowKit

theorem box3 (w : World) (x y z : Obj) : (((w.alloc x).alloc y).alloc z).heap[w.heap.size]? = some x ∧ (((w.alloc x).alloc y).alloc z).heap[w.heap.size + 1]? = some y ∧ (((w.alloc x).alloc y).alloc z).heap[w.heap.size + 1 + 1]? = some z :=
  ⟨(heap_alloc_old _ z (by simp; omega)).trans (box1 w x y), (heap_alloc_old _ z (by simp)).trans (box2 w x y), by
    have h := heap_alloc_new ((w.alloc x).alloc y) z
    rw [size2] at h
    exact h⟩
/-- The blocks of an operand's own variables: n: the answer's fault, n + 1: the first token, n + 2: the item. -/
structure Ox (w : World) (R n : Nat) (t : Tk) (cs : Array Value) : Prop where
  f : w.heap[n]? = some (.cells #[.int .i64 0, .int .i64 0] 41 (0, 0))
  s : w.heap[n + 1]? = some (.cells #[.int .i64 t.k, .int .i64 t.a, .string (bs t.w), .int .i64 t.n] 56 (0, 0))
  p : w.heap[n + 1 + 1]? = some (.cells cs 37 (0, 0))
  l : n + 1 + 1 < w.heap.size ∧ R < n
def it0 (t : Tk) : Array Value := #[.int .i64 0, .int .i64 t.a, .int .u8 0, .string ⟨#[]⟩, .slice none 0 0]
theorem Ox.fr {w w' : World} {R n : Nat} {t : Tk} {cs : Array Value} (h : Ox w R n t cs) (hF : Fr (fun k => k = R) w w') : Ox w' R n t cs := by
  obtain ⟨l1, l2⟩ := h.l
  have hs := hF.size
  exact ⟨frR hF h.f (by omega) (by omega), frR hF h.s (by omega) (by omega), frR hF h.p (by omega) (by omega), by omega, l2⟩
theorem Ox.below {w w' : World} {R n : Nat} {t : Tk} {cs : Array Value} (h : Ox w R n t cs) (hg : Below w.heap.size w w') : Ox w' R n t cs := h.fr (below_fr hg _)
theorem Ox.fcells {w : World} {R n : Nat} {t : Tk} {cs : Array Value} (h : Ox w R n t cs) :
    (w.cell? ⟨n, 0, none⟩ = some (.int .i64 0) ∧ w.cell? ⟨n, 1, none⟩ = some (.int .i64 0) ∧ w.frozen? ⟨n, 0, none⟩ = false ∧ w.frozen? ⟨n, 1, none⟩ = false) ∧
    (w.cell? ⟨n + 1, 0, none⟩ = some (.int .i64 t.k) ∧ w.cell? ⟨n + 1, 1, none⟩ = some (.int .i64 t.a) ∧ w.cell? ⟨n + 1, 2, none⟩ = some (.string (bs t.w)) ∧ w.cell? ⟨n + 1, 3, none⟩ = some (.int .i64 t.n)) := by
  refine ⟨⟨?_, ?_, ?_, ?_⟩, ⟨?_, ?_, ?_, ?_⟩⟩
  · rw [cell_of_row _ _ _ _ _ _ h.f]; rfl
  · rw [cell_of_row _ _ _ _ _ _ h.f]; rfl
  · exact frozen_of_row _ _ _ _ _ h.f
  · exact frozen_of_row _ _ _ _ _ h.f
  · rw [cell_of_row _ _ _ _ _ _ h.s]; rfl
  · rw [cell_of_row _ _ _ _ _ _ h.s]; rfl
  · rw [cell_of_row _ _ _ _ _ _ h.s]; rfl
  · rw [cell_of_row _ _ _ _ _ _ h.s]; rfl
theorem Ox.pcells {w : World} {R n : Nat} {t : Tk} {a b c d e : Value} (h : Ox w R n t #[a, b, c, d, e]) :
    w.cell? ⟨n + 1 + 1, 0, none⟩ = some a ∧ w.cell? ⟨n + 1 + 1, 1, none⟩ = some b ∧ w.cell? ⟨n + 1 + 1, 2, none⟩ = some c ∧ w.cell? ⟨n + 1 + 1, 3, none⟩ = some d ∧ w.cell? ⟨n + 1 + 1, 4, none⟩ = some e ∧ w.frozen? ⟨n + 1 + 1, 0, none⟩ = false ∧ w.frozen? ⟨n + 1 + 1, 3, none⟩ = false ∧ w.frozen? ⟨n + 1 + 1, 4, none⟩ = false := by
  refine ⟨?_, ?_, ?_, ?_, ?_, ?_, ?_, ?_⟩
  · rw [cell_of_row _ _ _ _ _ _ h.p]; rfl
  · rw [cell_of_row _ _ _ _ _ _ h.p]; rfl
  · rw [cell_of_row _ _ _ _ _ _ h.p]; rfl
  · rw [cell_of_row _ _ _ _ _ _ h.p]; rfl
  · rw [cell_of_row _ _ _ _ _ _ h.p]; rfl
  · exact frozen_of_row _ _ _ _ _ h.p
  · exact frozen_of_row _ _ _ _ _ h.p
  · exact frozen_of_row _ _ _ _ _ h.p
/-- The world in which an operand's variables have just been made. -/
abbrev ow (w : World) (t : Tk) : World := ((w.alloc (.cells #[.int .i64 0, .int .i64 0] 41)).alloc (.cells #[.int .i64 t.k, .int .i64 t.a, .string (bs t.w), .int .i64 t.n] 56)).alloc (.cells #[.int .i64 0, .int .i64 t.a, .int .u8 0, .string ⟨#[]⟩, .slice none 0 0] 37)
theorem ow_size (w : World) (t : Tk) : (ow w t).heap.size = w.heap.size + 3 := by simp
theorem Ox.make {w : World} {R : Nat} {t : Tk} (hR : R < w.heap.size) : Ox (ow w t) R w.heap.size t (it0 t) := by
  have h := box3 w (.cells #[.int .i64 0, .int .i64 0] 41) (.cells #[.int .i64 t.k, .int .i64 t.a, .string (bs t.w), .int .i64 t.n] 56) (.cells (it0 t) 37)
  exact ⟨h.1, h.2.1, h.2.2, by rw [ow_size]; omega, hR⟩
theorem ow_fr (S : Nat → Prop) (w : World) (t : Tk) : Fr S w (ow w t) := (((Fr.refl S w).alloc _).alloc _).alloc _
theorem ow_rs {w : World} {R b o c : Nat} {k : Int} {ts : List Tk} {ms : List IM} {tm : List (Option TE)} {vi vt : Value} (h : RS w R b o c k ts ms tm vi vt) (t : Tk) : RS (ow w t) R b o c k ts ms tm vi vt := ((h.alloc _).alloc _).alloc _
/-- What an operand answers: a fault; or that a bracket is open; or that an item more is read. -/
def OpBad (w : World) (R : Nat) (vi vt : Value) (a x : Int) (e : Ending) (w' : World) : Prop := e = .returned (.tuple #[.bool false, .agg #[.int .i64 a, .int .i64 x]]) ∧ Fr (Mu R vi vt) w w'
def OpOpen (w : World) (R b : Nat) (k : Int) (ts : List Tk) (ms : List IM) (tm : List (Option TE)) (vi vt : Value) (e : Ending) (w' : World) : Prop := e = .returned (.tuple #[.bool false, .agg #[.int .i64 0, .int .i64 0]]) ∧ ∃ o' c' vt', RS w' R b o' c' (k + 1) ts ms (none :: tm) vi vt' ∧ Go2 w R vi vt w' vi vt'
def OpItem (w : World) (R b : Nat) (k : Int) (x : It) (ts : List Tk) (ms : List IM) (tm : List (Option TE)) (vi vt : Value) (e : Ending) (w' : World) : Prop := e = .returned (.tuple #[.bool true, .agg #[.int .i64 0, .int .i64 0]]) ∧ ∃ o' c' m vi', RS w' R b o' c' k ts (ms ++ [m]) tm vi' vt ∧ m.it = x ∧ Go2 w R vi vt w' vi' vt
theorem tokF (t : Tk) : ((bs t.w).toList == [40]) = decide (t.w = [40]) := cmpB _ _
set_option maxRecDepth 100000 in
set_option maxHeartbeats 3200000 in
theorem operand_nest (w : World) (R b o c : Nat) (k : Int) (t : Tk) (ts : List Tk) (ms : List IM) (tm : List (Option TE)) (vi vt : Value) (h : RS w R b o c k (t :: ts) ms tm vi vt) (hL : LaidR w R) (hk : t.k ≠ 2) (hw : t.w.length ≤ 1000) (hn : nameB t.w = false) (hp : t.w = [40]) (hk32 : k = 32) :
    Calls Tryz.prog 75 #[.pointer (some ⟨R, 0, none⟩)] w (OpBad w R vi vt t.a 44) := by
  obtain ⟨c0, c1, c2, c3, f0⟩ := h.cells
  have hlt := h.lt
  obtain ⟨t0, t1, t2, t3⟩ := h.head
  have hb := h.sb.1
  have hcap := h.cap
  have hbnd := h.bnd
  simp only [List.length_cons] at c0 hcap hbnd
  have HS := Lib.hid h
  clear h f0
  have hk2 : (t.k == 2) = false := by simpa using hk
  have hfw := fun w => fieldW t w
  have hnm := fun W hP => name_any (bs t.w) W hP (by rw [bs_size]; omega)
  rw [bs_list, hn] at hnm
  have X0 := Lib.hid (cmpYes hp)
  have X1 := Lib.hid (show (k == 32) = true by simpa using hk32)
  clear hp hk32
  go_enter Tryz.func75, Tryz.ntmps75
  go_wp2_with (first
    | (go_at_call 38; refine (hnm _ ((hL.fr (ow_fr (fun _ => False) w t) (fun _ h => h.elim)).laid)).mono ?_; rintro e w1 ⟨rfl, g1⟩; have hs1 := (ow_rs HS.out t).keep g1; have hx1 := (Ox.make (t := t) hlt).below g1; obtain ⟨⟨a1, b1, fa1, fb1⟩, ⟨s10, s11, s12, s13⟩⟩ := hx1.fcells; obtain ⟨p10, p11, p12, p13, p14, fp10, fp13, fp14⟩ := hx1.pcells; obtain ⟨d0, d1, d2, d3, df⟩ := hs1.cells; have df0 := df 0; have df1 := df 1; have df2 := df 2; have df3 := df 3; obtain ⟨u0, u1, u2, u3⟩ := hs1.head; have ub := hs1.sb.1; have l1 := hx1.l; have l2 := hs1.lt; have HX1 := Lib.hid (And.intro g1 (And.intro hs1 hx1)); clear df g1 hs1 hx1; have x0 := X0.out; have x1 := X1.out)
    | (go_at_call 22; refine (fault_any t 44 _).mono ?_; rintro e w5 ⟨rfl, g5⟩; have h5 := (g5.below.block w.heap.size (by omega)).trans HX1.out.2.2.f; have j0 : w5.cell? ⟨w.heap.size, 0, none⟩ = some (.int .i64 0) := (by rw [cell_of_row _ _ _ _ _ _ h5]; rfl); have j1 : w5.cell? ⟨w.heap.size, 1, none⟩ = some (.int .i64 0) := (by rw [cell_of_row _ _ _ _ _ _ h5]; rfl); have j2 := frozen_of_row _ _ 0 _ _ h5; have j3 := frozen_of_row _ _ 1 _ _ h5; clear h5; have G5 := Lib.hid g5; clear g5))
  exact bodyPost_ret (v := .tuple #[.bool false, .agg #[.int .i64 t.a, .int .i64 44]]) (by simp [results, Tryz.results75, go_sem, j0, j1]) rfl ⟨rfl, Fr.weak ((((((ow_fr (fun j => j = R) w t).trans (below_fr HX1.out.1 _)).gr G5.out).set (b := w.heap.size) (.inr (by omega)) 0 (.int .i64 t.a)).set (b := w.heap.size) (.inr (by omega)) 1 (.int .i64 44))) fun _ _ hi => .inl hi⟩
set_option maxRecDepth 100000 in
set_option maxHeartbeats 3200000 in
theorem operand_word (w : World) (R b o c : Nat) (k : Int) (t : Tk) (ts : List Tk) (ms : List IM) (tm : List (Option TE)) (vi vt : Value) (h : RS w R b o c k (t :: ts) ms tm vi vt) (hL : LaidR w R) (hk : t.k ≠ 2) (hw : t.w.length ≤ 1000) (hn : nameB t.w = false) (hp : ¬ t.w = [40]) (hk1 : t.k = 1) :
    Calls Tryz.prog 75 #[.pointer (some ⟨R, 0, none⟩)] w (OpBad w R vi vt t.a 41) := by
  obtain ⟨c0, c1, c2, c3, f0⟩ := h.cells
  have hlt := h.lt
  obtain ⟨t0, t1, t2, t3⟩ := h.head
  have hb := h.sb.1
  have hcap := h.cap
  have hbnd := h.bnd
  simp only [List.length_cons] at c0 hcap hbnd
  have HS := Lib.hid h
  clear h f0
  have hk2 : (t.k == 2) = false := by simpa using hk
  have hfw := fun w => fieldW t w
  have hnm := fun W hP => name_any (bs t.w) W hP (by rw [bs_size]; omega)
  rw [bs_list, hn] at hnm
  have x0 : ((bs t.w).toList == [40]) = false := cmpNo hp
  have X1 := Lib.hid (show (t.k == 1) = true by simpa using hk1)
  clear hk1
  go_enter Tryz.func75, Tryz.ntmps75
  go_wp2_with (first
    | (go_at_call 38; refine (hnm _ ((hL.fr (ow_fr (fun _ => False) w t) (fun _ h => h.elim)).laid)).mono ?_; rintro e w1 ⟨rfl, g1⟩; have hs1 := (ow_rs HS.out t).keep g1; have hx1 := (Ox.make (t := t) hlt).below g1; obtain ⟨⟨a1, b1, fa1, fb1⟩, ⟨s10, s11, s12, s13⟩⟩ := hx1.fcells; obtain ⟨p10, p11, p12, p13, p14, fp10, fp13, fp14⟩ := hx1.pcells; obtain ⟨d0, d1, d2, d3, df⟩ := hs1.cells; have df0 := df 0; have df1 := df 1; have df2 := df 2; have df3 := df 3; obtain ⟨u0, u1, u2, u3⟩ := hs1.head; have ub := hs1.sb.1; have l1 := hx1.l; have l2 := hs1.lt; have HX1 := Lib.hid (And.intro g1 (And.intro hs1 hx1)); clear df g1 hs1 hx1; have x1 := X1.out)
    | (go_at_call 22; refine (fault_any t 41 _).mono ?_; rintro e w5 ⟨rfl, g5⟩; have h5 := (g5.below.block w.heap.size (by omega)).trans HX1.out.2.2.f; have j0 : w5.cell? ⟨w.heap.size, 0, none⟩ = some (.int .i64 0) := (by rw [cell_of_row _ _ _ _ _ _ h5]; rfl); have j1 : w5.cell? ⟨w.heap.size, 1, none⟩ = some (.int .i64 0) := (by rw [cell_of_row _ _ _ _ _ _ h5]; rfl); have j2 := frozen_of_row _ _ 0 _ _ h5; have j3 := frozen_of_row _ _ 1 _ _ h5; clear h5; have G5 := Lib.hid g5; clear g5)
    | (go_at_call 22; refine (fault_any ⟨1, t.a, t.w, t.n⟩ 41 _).mono ?_; rintro e w5 ⟨rfl, g5⟩; have h5 := (g5.below.block w.heap.size (by omega)).trans HX1.out.2.2.f; have j0 : w5.cell? ⟨w.heap.size, 0, none⟩ = some (.int .i64 0) := (by rw [cell_of_row _ _ _ _ _ _ h5]; rfl); have j1 : w5.cell? ⟨w.heap.size, 1, none⟩ = some (.int .i64 0) := (by rw [cell_of_row _ _ _ _ _ _ h5]; rfl); have j2 := frozen_of_row _ _ 0 _ _ h5; have j3 := frozen_of_row _ _ 1 _ _ h5; clear h5; have G5 := Lib.hid g5; clear g5))
  exact bodyPost_ret (v := .tuple #[.bool false, .agg #[.int .i64 t.a, .int .i64 41]]) (by simp [results, Tryz.results75, go_sem, j0, j1]) rfl ⟨rfl, Fr.weak ((((((ow_fr (fun j => j = R) w t).trans (below_fr HX1.out.1 _)).gr G5.out).set (b := w.heap.size) (.inr (by omega)) 0 (.int .i64 t.a)).set (b := w.heap.size) (.inr (by omega)) 1 (.int .i64 41))) fun _ _ hi => .inl hi⟩
set_option maxRecDepth 100000 in
set_option maxHeartbeats 3200000 in
theorem operand_want (w : World) (R b o c : Nat) (k : Int) (t : Tk) (ts : List Tk) (ms : List IM) (tm : List (Option TE)) (vi vt : Value) (h : RS w R b o c k (t :: ts) ms tm vi vt) (hL : LaidR w R) (hk : t.k ≠ 2) (hw : t.w.length ≤ 1000) (hn : nameB t.w = false) (hp : ¬ t.w = [40]) (hk1 : ¬ t.k = 1) :
    Calls Tryz.prog 75 #[.pointer (some ⟨R, 0, none⟩)] w (OpBad w R vi vt t.a 42) := by
  obtain ⟨c0, c1, c2, c3, f0⟩ := h.cells
  have hlt := h.lt
  obtain ⟨t0, t1, t2, t3⟩ := h.head
  have hb := h.sb.1
  have hcap := h.cap
  have hbnd := h.bnd
  simp only [List.length_cons] at c0 hcap hbnd
  have HS := Lib.hid h
  clear h f0
  have hk2 : (t.k == 2) = false := by simpa using hk
  have hfw := fun w => fieldW t w
  have hnm := fun W hP => name_any (bs t.w) W hP (by rw [bs_size]; omega)
  rw [bs_list, hn] at hnm
  have x0 : ((bs t.w).toList == [40]) = false := cmpNo hp
  have x1 : (t.k == 1) = false := by simpa using hk1
  go_enter Tryz.func75, Tryz.ntmps75
  go_wp2_with (first
    | (go_at_call 38; refine (hnm _ ((hL.fr (ow_fr (fun _ => False) w t) (fun _ h => h.elim)).laid)).mono ?_; rintro e w1 ⟨rfl, g1⟩; have hs1 := (ow_rs HS.out t).keep g1; have hx1 := (Ox.make (t := t) hlt).below g1; obtain ⟨⟨a1, b1, fa1, fb1⟩, ⟨s10, s11, s12, s13⟩⟩ := hx1.fcells; obtain ⟨p10, p11, p12, p13, p14, fp10, fp13, fp14⟩ := hx1.pcells; obtain ⟨d0, d1, d2, d3, df⟩ := hs1.cells; have df0 := df 0; have df1 := df 1; have df2 := df 2; have df3 := df 3; obtain ⟨u0, u1, u2, u3⟩ := hs1.head; have ub := hs1.sb.1; have l1 := hx1.l; have l2 := hs1.lt; have HX1 := Lib.hid (And.intro g1 (And.intro hs1 hx1)); clear df g1 hs1 hx1)
    | (go_at_call 22; refine (fault_any t 42 _).mono ?_; rintro e w5 ⟨rfl, g5⟩; have h5 := (g5.below.block w.heap.size (by omega)).trans HX1.out.2.2.f; have j0 : w5.cell? ⟨w.heap.size, 0, none⟩ = some (.int .i64 0) := (by rw [cell_of_row _ _ _ _ _ _ h5]; rfl); have j1 : w5.cell? ⟨w.heap.size, 1, none⟩ = some (.int .i64 0) := (by rw [cell_of_row _ _ _ _ _ _ h5]; rfl); have j2 := frozen_of_row _ _ 0 _ _ h5; have j3 := frozen_of_row _ _ 1 _ _ h5; clear h5; have G5 := Lib.hid g5; clear g5))
  exact bodyPost_ret (v := .tuple #[.bool false, .agg #[.int .i64 t.a, .int .i64 42]]) (by simp [results, Tryz.results75, go_sem, j0, j1]) rfl ⟨rfl, Fr.weak ((((((ow_fr (fun j => j = R) w t).trans (below_fr HX1.out.1 _)).gr G5.out).set (b := w.heap.size) (.inr (by omega)) 0 (.int .i64 t.a)).set (b := w.heap.size) (.inr (by omega)) 1 (.int .i64 42))) fun _ _ hi => .inl hi⟩
end Go.Proofs.YtbapgdhcbfpdoaaGreatDoor
/- Contract of the reader: operand, a name and an open bracket. Written by gen_y.py. -/
namespace Go.Proofs.YtbapgdhcbfpdoaaGreatDoor
open Go.RowKit
theorem heap_lt {w : World} {j : Nat} {y : Obj} (h : w.heap[j]? = some y) : j < w.heap.size := by
  rcases Nat.lt_or_ge j w.heap.size with h1 | h1
  · exact h1
  · rw [Array.getElem?_eq_none h1] at h; cases h
/-- What an open bracket leaves. -/
theorem open_close {w W3 w4 : World} {R b o c : Nat} {k k' : Int} {ts0 : List Tk} {ms : List IM} {tm : List (Option TE)} {vi : Value} {A : Option Addr} {ct : Nat} (h : RS w R b o c k ts0 ms tm vi (.slice A tm.length ct)) {o' c' : Nat} {pre us : List Tk} {g cap : Nat} {x : Obj}
    (F3 : Fr (fun j => j = R) w W3) (hR3 : W3.heap[R]? = some (.cells #[.slice (some ⟨b, o', none⟩) us.length c', vi, .slice A tm.length ct, .int .i64 k'] 121 (0, 0)))
    (hgrow : (W3.alloc x).drew.grownBy w4 (Value.slice A tm.length ct).ownBlock) (howt : w4.ownsRow (R + 1) 1 1 (.slice (some ⟨g, 0, none⟩) (tm.length + 1) cap) (tm.length + 1) (tm.reverse.map tval ++ [.nilFunc]))
    (hat : (Value.slice A tm.length ct).ownBlock = some g ∨ g = W3.heap.size + 1) (hz3 : w.heap.size + 3 ≤ W3.heap.size) (hts : ts0 = pre ++ us) (ho : o' = o + pre.length * 4) (hc : us.length ≤ c') (hpl : 0 < pre.length) :
    RS (((w4.setCell ⟨R, 2, none⟩ (.slice (some ⟨g, 0, none⟩) (tm.length + 1) cap)).setCell ⟨w.heap.size, 0, none⟩ (.int .i64 0)).setCell ⟨w.heap.size, 1, none⟩ (.int .i64 0)) R b o' c' k' us ms (none :: tm) vi (.slice (some ⟨g, 0, none⟩) (tm.length + 1) cap) ∧
    Go2 w R vi (.slice A tm.length ct) (((w4.setCell ⟨R, 2, none⟩ (.slice (some ⟨g, 0, none⟩) (tm.length + 1) cap)).setCell ⟨w.heap.size, 0, none⟩ (.int .i64 0)).setCell ⟨w.heap.size, 1, none⟩ (.int .i64 0)) vi (.slice (some ⟨g, 0, none⟩) (tm.length + 1) cap) := by
  have hRl := h.lt
  have hn0 : ∀ j, (Value.slice A tm.length ct).ownBlock = some j → R < j ∧ j < w.heap.size := fun j hj => by have := row_base h.owt hj; omega
  have lR : R < W3.heap.size := heap_lt hR3
  have hk4 : w4.heap[R]? = W3.heap[R]? := ((hgrow.block R (by simp; omega) (fun e => by have := hn0 _ e.symm; omega)).trans (heap_alloc_old W3 _ lR))
  have hg := (row_base howt (k := g) rfl)
  have gn : g ≠ w.heap.size := by
    rcases hat with h1 | h1
    · have := hn0 _ h1; omega
    · omega
  have F : Fr (fun j => j = R ∨ (Value.slice A tm.length ct).ownBlock = some j) w w4 :=
    ((F3.weak fun i _ hi => .inl hi).trans (below_fr (up_drew W3 x) _)).trans (Fr.grown hgrow _ fun j hj => .inr hj)
  have FF := ((F.set (.inl (.inl rfl) : (R = R ∨ (Value.slice A tm.length ct).ownBlock = some R) ∨ _) 2 (.slice (some ⟨g, 0, none⟩) (tm.length + 1) cap)).set (b := w.heap.size) (.inr (by omega)) 0 (.int .i64 0)).set (b := w.heap.size) (.inr (by omega)) 1 (.int .i64 0)
  have N : NR w.heap.size (.slice A tm.length ct) (.slice (some ⟨g, 0, none⟩) (tm.length + 1) cap) := NR.of (hat.imp id fun h => by omega) rfl
  have F2 := FF.weak (T := Mu R vi (.slice A tm.length ct)) fun i _ hi => hi.elim .inl fun h => .inr (.inr h)
  have hb := h.bnd
  rw [hts, List.length_append] at hb
  refine ⟨h.next F2 (NR.refl _ _) N ?_ hc hts ho ?_ ?_ (fun m hm => .inl hm) (fun e he => .inl (by simpa using he)) (by simp; omega), NR.refl _ _, N, F2⟩
  · rw [Fr.set.heap_set_other (by omega), Fr.set.heap_set_other (by omega), heap_setCell_same _ _ _ _ _ _ (hk4.trans hR3)]; rfl
  · exact row_keep h.own (fun j hk hl => FF.block j hl (by
      rintro (h1 | h1)
      · have := (row_base h.own hk).1; omega
      · exact rows_ne h.own h.owt (by decide) hk h1)) (Nat.le_refl _)
  · rw [List.reverse_cons, List.map_append]
    exact ownsRow_setCell_other (a := ⟨w.heap.size, 1, none⟩) (ownsRow_setCell_other (a := ⟨w.heap.size, 0, none⟩) (ownsRow_setCell_other (a := ⟨R, 2, none⟩) howt (by simp [Value.ownBlock]; omega) _) (by simp [Value.ownBlock]; omega) _) (by simp [Value.ownBlock]; omega) _
/-- What an operand's item leaves. -/
theorem item_close {w W3 w4 : World} {R b o c : Nat} {k : Int} {ts0 : List Tk} {ms : List IM} {tm : List (Option TE)} {vt : Value} {A : Option Addr} {ct : Nat} (h : RS w R b o c k ts0 ms tm (.slice A ms.length ct) vt) {o' c' : Nat} {pre us : List Tk} {g cap : Nat} {x : Obj} (m : IM)
    (F3 : Fr (fun j => j = R) w W3) (hR3 : W3.heap[R]? = some (.cells #[.slice (some ⟨b, o', none⟩) us.length c', .slice A ms.length ct, vt, .int .i64 k] 121 (0, 0)))
    (hgrow : (W3.alloc x).drew.grownBy w4 (Value.slice A ms.length ct).ownBlock) (hown : w4.ownsRow (R + 1) 37 5 (.slice (some ⟨g, 0, none⟩) (ms.length + 1) cap) (ms.length + 1) (ms.flatMap IM.cells ++ m.cells))
    (hat : (Value.slice A ms.length ct).ownBlock = some g ∨ g = W3.heap.size + 1) (hz3 : w.heap.size + 3 ≤ W3.heap.size) (hts : ts0 = pre ++ us) (ho : o' = o + pre.length * 4) (hc : us.length ≤ c') (hpl : 0 < pre.length) (hm : RdN W3 (fun j => w.heap.size < j ∧ j < W3.heap.size) m.A m.it.ns) :
    RS (((w4.setCell ⟨R, 1, none⟩ (.slice (some ⟨g, 0, none⟩) (ms.length + 1) cap)).setCell ⟨w.heap.size, 0, none⟩ (.int .i64 0)).setCell ⟨w.heap.size, 1, none⟩ (.int .i64 0)) R b o' c' k us (ms ++ [m]) tm (.slice (some ⟨g, 0, none⟩) (ms.length + 1) cap) vt ∧
    Go2 w R (.slice A ms.length ct) vt (((w4.setCell ⟨R, 1, none⟩ (.slice (some ⟨g, 0, none⟩) (ms.length + 1) cap)).setCell ⟨w.heap.size, 0, none⟩ (.int .i64 0)).setCell ⟨w.heap.size, 1, none⟩ (.int .i64 0)) (.slice (some ⟨g, 0, none⟩) (ms.length + 1) cap) vt := by
  have hRl := h.lt
  have hn0 : ∀ j, (Value.slice A ms.length ct).ownBlock = some j → R < j ∧ j < w.heap.size := fun j hj => by have := row_base h.own hj; omega
  have lR : R < W3.heap.size := heap_lt hR3
  have hk4 : ∀ j, j < W3.heap.size → (Value.slice A ms.length ct).ownBlock ≠ some j → w4.heap[j]? = W3.heap[j]? := fun j hj hn => ((hgrow.block j (by simp; omega) (Ne.symm hn)).trans (heap_alloc_old W3 _ hj))
  have hg := (row_base hown (k := g) rfl)
  have gn : g ≠ w.heap.size := by
    rcases hat with h1 | h1
    · have := hn0 _ h1; omega
    · omega
  have hz := hgrow.size
  have hz : W3.heap.size + 1 ≤ w4.heap.size := by simpa using hz
  have F : Fr (fun j => j = R ∨ (Value.slice A ms.length ct).ownBlock = some j) w w4 :=
    ((F3.weak fun i _ hi => .inl hi).trans (below_fr (up_drew W3 x) _)).trans (Fr.grown hgrow _ fun j hj => .inr hj)
  have FF := ((F.set (.inl (.inl rfl) : (R = R ∨ (Value.slice A ms.length ct).ownBlock = some R) ∨ _) 1 (.slice (some ⟨g, 0, none⟩) (ms.length + 1) cap)).set (b := w.heap.size) (.inr (by omega)) 0 (.int .i64 0)).set (b := w.heap.size) (.inr (by omega)) 1 (.int .i64 0)
  have N : NR w.heap.size (.slice A ms.length ct) (.slice (some ⟨g, 0, none⟩) (ms.length + 1) cap) := NR.of (hat.imp id fun h => by omega) rfl
  have F2 := FF.weak (T := Mu R (.slice A ms.length ct) vt) fun i _ hi => hi.elim .inl fun h => .inr (.inl h)
  have hb := h.bnd
  rw [hts, List.length_append] at hb
  refine ⟨h.next F2 N (NR.refl _ _) ?_ hc hts ho ?_ ?_ ?_ (fun e he => .inl he) (by simp; omega), N, NR.refl _ _, F2⟩
  · rw [Fr.set.heap_set_other (by omega), Fr.set.heap_set_other (by omega), heap_setCell_same _ _ _ _ _ _ ((hk4 R lR (fun e => by have := hn0 _ e; omega)).trans hR3)]; rfl
  · rw [List.length_append, List.flatMap_append]
    simp only [List.length_cons, List.length_nil, List.flatMap_cons, List.flatMap_nil, List.append_nil]
    exact ownsRow_setCell_other (a := ⟨w.heap.size, 1, none⟩) (ownsRow_setCell_other (a := ⟨w.heap.size, 0, none⟩) (ownsRow_setCell_other (a := ⟨R, 1, none⟩) hown (by simp [Value.ownBlock]; omega) _) (by simp [Value.ownBlock]; omega) _) (by simp [Value.ownBlock]; omega) _
  · exact row_keep h.owt (fun j hk hl => FF.block j hl (by
      rintro (h1 | h1)
      · have := (row_base h.owt hk).1; omega
      · exact rows_ne h.own h.owt (by decide) h1 hk)) (Nat.le_refl _)
  · intro y hy
    rw [List.mem_append] at hy
    rcases hy with hy | hy
    · exact .inl hy
    · simp at hy
      subst hy
      refine .inr (hm.mono fun j hj => ⟨⟨by simp; omega, ?_⟩, ?_⟩)
      · rintro (h4 | h4 | h4)
        · omega
        · simp [Value.ownBlock] at h4
          rcases hat with h5 | h5
          · have := hn0 _ h5; omega
          · omega
        · have := (row_base h.owt h4).2; omega
      · rw [Fr.set.heap_set_other (by omega), Fr.set.heap_set_other (by omega), Fr.set.heap_set_other (by omega)]
        exact hk4 j hj.2 fun e => by have := hn0 _ e; omega
end Go.Proofs.YtbapgdhcbfpdoaaGreatDoor
