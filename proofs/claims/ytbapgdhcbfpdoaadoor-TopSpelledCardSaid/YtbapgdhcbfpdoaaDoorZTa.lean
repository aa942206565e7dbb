/- Layer 4, put together: TopA, TopB. -/
import Derived.Test.YtbapgdhcbfpdoaaDoorZSb
import Derived.Test.YtbapgdhcbfpdoaaDoorZLf
import Derived.Test.YtbapgdhcbfpdoaaDoorZSp
import Derived.Test.YtbapgdhcbfpdoaaDoorZLe
/- What is cut out of a text has texts; the same tokens are the same program, places apart. -/
namespace Go.Proofs.YtbapgdhcbfpdoaaDoor
open Go.RowKit
set_option linter.unusedVariables false
theorem pc_num2 {n : Int} (h : rng n) : ∃ b r, digs n = b :: r ∧ piece b r = .tok 2 [] n r.length := by
  have hd := dec_dig n.natAbs
  have hm := mag_dec n.natAbs n.natAbs (Nat.le_refl _)
  have hfull : ∀ l : List UInt8, (∀ c ∈ l, digB c = true) → run digB l = l.length := fun l hl => run_full digB l hl
  unfold digs
  by_cases h0 : n < 0
  · rw [if_pos h0]
    refine ⟨_, _, rfl, ?_⟩
    have hne := dec_ne n.natAbs
    have hp : 0 < run digB (Lib.decDigits n.natAbs) := by rw [hfull _ hd]; exact List.length_pos_iff.2 hne
    unfold piece
    rw [if_neg (by decide), if_neg (by decide), if_neg (by decide), if_neg (by decide), if_neg (by decide), if_pos ⟨by decide, hp⟩, hfull _ hd, List.take_length]
    unfold numR
    rw [if_pos rfl, hm, if_pos (by have := h.1; omega)]
    show Pc.tok 2 [] _ _ = _
    congr 1
    omega
  · rw [if_neg h0]
    cases hl : Lib.decDigits n.natAbs with
    | nil => exact (dec_ne _ hl).elim
    | cons b r =>
      rw [hl] at hd hm
      obtain ⟨n1, n2, n3, n4⟩ := dig_no (hd b (by simp))
      refine ⟨_, _, rfl, ?_⟩
      unfold piece
      rw [if_neg (by rw [n1]; decide), if_neg n2, if_neg n3, if_neg (by rw [n4]; decide), if_pos (hd b (by simp)), hfull r (fun c hc => hd c (by simp [hc])), List.take_length]
      unfold numR
      rw [if_neg (by decide), hm, if_pos (by have := h.2; omega)]
      show Pc.tok 2 [] _ _ = _
      congr 1
      omega
theorem sp_dig2 {n : Int} (h : rng n) (a : Int) : Sp ⟨2, a, [], n⟩ := by
  obtain ⟨b, r, h1, h2⟩ := pc_num2 h
  obtain ⟨h3, h4⟩ := digs_head h1
  have h5 := digs_len h.1 h.2
  rw [h1] at h5
  simp only [List.length_cons] at h5
  exact ⟨b, r, h1, by omega, h3, h4, h2⟩
theorem num_sp {neg : Bool} {ds : List UInt8} {j : Nat} {kd v : Int} {w : List UInt8} {k : Nat} (h : numP (numR neg ds) j = .tok kd w v k) (a : Int) : Sp ⟨kd, a, w, v⟩ := by
  cases hx : numR neg ds with
  | none => rw [hx] at h; cases h
  | some x =>
    rw [hx] at h
    have h : Pc.tok 2 [] x j = .tok kd w v k := h
    injection h with h1 h2 h3 h4
    subst h1 h2 h3
    refine sp_dig2 ?_ a
    unfold numR at hx
    cases neg
    · rw [if_neg Bool.false_ne_true] at hx
      split at hx
      · injection hx with hx; unfold rng; omega
      · cases hx
    · rw [if_pos rfl] at hx
      split at hx
      · injection hx with hx; unfold rng; omega
      · cases hx
theorem piece_sp {b : UInt8} {r : List UInt8} {kd v : Int} {w : List UInt8} {k : Nat} (h : piece b r = .tok kd w v k) (a : Int) : Sp ⟨kd, a, w, v⟩ := by
  unfold piece at h
  split at h
  · cases h
  rename_i n1
  split at h
  · cases h
  rename_i n2
  split at h
  · injection h with h1 h2 h3 h4
    subst h1 h2 h3
    exact ⟨10, [], rfl, by decide, by decide, by decide, rfl⟩
  rename_i n3
  have n1 : blB b = false := by simpa using n1
  split at h
  · rename_i hl
    split at h
    · cases h
    · rename_i hn
      injection h with h1 h2 h3 h4
      subst h1 h2 h3
      have hle := run_le alnB r
      have hlen : (r.take (run alnB r)).length = run alnB r := by rw [List.length_take]; omega
      have hrun : run alnB (r.take (run alnB r)) = run alnB r := by
        have := run_ext alnB r [] (by unfold headNot; simp)
        rwa [List.append_nil] at this
      refine ⟨b, r.take (run alnB r), rfl, by omega, n1, n2, ?_⟩
      unfold piece
      rw [if_neg (by rw [n1]; decide), if_neg n2, if_neg n3, if_pos hl, if_neg (by rw [hrun]; exact hn), hrun, List.take_of_length_le (by omega), hlen]
  rename_i hl
  split at h
  · exact num_sp h a
  rename_i hdg
  split at h
  · exact num_sp h a
  rename_i hneg
  split at h
  · rename_i h7
    injection h with h1 h2 h3 h4
    subst h1 h2 h3
    rcases h7.1 with e | e
    · have e : b = 60 := UInt8.toNat_inj.1 e
      subst e
      exact ⟨60, [61], rfl, by decide, by decide, by decide, rfl⟩
    · have e : b = 62 := UInt8.toNat_inj.1 e
      subst e
      exact ⟨62, [61], rfl, by decide, by decide, by decide, rfl⟩
  split at h
  · rename_i ho
    injection h with h1 h2 h3 h4
    subst h1 h2 h3
    refine ⟨b, [], rfl, by decide, n1, n2, ?_⟩
    unfold piece
    rw [if_neg (by rw [n1]; decide), if_neg n2, if_neg n3, if_neg hl, if_neg hdg, if_neg (by simp [run_nil]), if_neg (by simp), if_pos ho]
    rfl
  · cases h
theorem lex_sp : ∀ (n : Nat) (l : List UInt8) (a : Int), l.length ≤ n → ∀ ts, lexL l a = .ok ts → ∀ t ∈ ts, Sp t := by
  intro n
  induction n with
  | zero =>
    intro l a hl ts h
    obtain rfl : l = [] := List.length_eq_zero_iff.1 (by omega)
    rw [lex_nil] at h; injection h with h; subst h
    exact fun t ht => by simp at ht
  | succ n ih =>
    intro l a hl ts h
    cases l with
    | nil => rw [lex_nil] at h; injection h with h; subst h; exact fun t ht => by simp at ht
    | cons b r =>
      simp at hl
      cases hp : piece b r with
      | skip k =>
        rw [lex_skip hp] at h
        exact ih _ _ (by rw [List.length_drop]; omega) _ h
      | tok kd w v k =>
        rw [lex_tok hp] at h
        obtain ⟨vs, hv, rfl⟩ := pre_ok h
        have h1 := ih _ _ (by rw [List.length_drop]; omega) _ hv
        intro t ht
        simp only [List.cons_append, List.nil_append, List.mem_cons] at ht
        rcases ht with rfl | ht
        · exact piece_sp hp a
        · exact h1 t ht
      | bad e => rw [lex_bad hp] at h; cases h
theorem lex_count : ∀ (n : Nat) (l : List UInt8) (a : Int), l.length ≤ n → ∀ ts, lexL l a = .ok ts → ts.length ≤ l.length ∧ ∀ t ∈ ts, t.w.length ≤ 16 ∧ rng t.n := by
  intro n
  induction n with
  | zero =>
    intro l a hl ts h
    obtain rfl : l = [] := List.length_eq_zero_iff.1 (by omega)
    rw [lex_nil] at h; injection h with h; subst h
    exact ⟨Nat.le_refl _, fun t ht => by simp at ht⟩
  | succ n ih =>
    intro l a hl ts h
    cases l with
    | nil => rw [lex_nil] at h; injection h with h; subst h; exact ⟨Nat.le_refl _, fun t ht => by simp at ht⟩
    | cons b r =>
      simp at hl
      cases hp : piece b r with
      | skip k =>
        rw [lex_skip hp] at h
        have h1 := ih _ _ (by rw [List.length_drop]; omega) _ h
        rw [List.length_drop] at h1
        exact ⟨by simp only [List.length_cons]; omega, h1.2⟩
      | tok kd w v k =>
        rw [lex_tok hp] at h
        obtain ⟨vs, hv, rfl⟩ := pre_ok h
        have h1 := ih _ _ (by rw [List.length_drop]; omega) _ hv
        rw [List.length_drop] at h1
        refine ⟨by simp only [List.length_cons, List.length_append, List.length_nil]; omega, ?_⟩
        intro t ht
        simp only [List.cons_append, List.nil_append, List.mem_cons] at ht
        rcases ht with rfl | ht
        · rcases piece_kind hp with ⟨_, rfl, _, rfl⟩ | ⟨_, rfl, _, h2, h3⟩ | ⟨_, rfl, h2, rfl⟩
          · exact ⟨Nat.zero_le _, (show rng 0 from ⟨by decide, by decide⟩)⟩
          · exact ⟨Nat.zero_le _, ⟨h2, h3⟩⟩
          · refine ⟨?_, (show rng 0 from ⟨by decide, by decide⟩)⟩
            show (b :: r.take k).length ≤ 16
            rw [List.length_cons, List.length_take]; omega
        · exact h1.2 t ht
      | bad e => rw [lex_bad hp] at h; cases h
theorem txt_le {t : Tk} (h1 : t.w.length ≤ 16) (h2 : rng t.n) : (txt t).length ≤ 21 := by
  unfold txt
  split
  · exact digs_len h2.1 h2.2
  · split
    · decide
    · omega
/-! ### the same tokens -/
theorem same_lines : ∀ (N : Nat) (ts us : List Tk), ts.length ≤ N → ts.map zT = us.map zT → ∀ (n m a b : Int) (p q : Pg), zP p = zP q → zR (linesR n p (ts ++ [⟨4, a, [], 0⟩])) = zR (linesR m q (us ++ [⟨4, b, [], 0⟩])) := by
  intro N
  induction N with
  | zero =>
    intro ts us hl h n m a b p q hp
    obtain rfl : ts = [] := List.length_eq_zero_iff.1 (by omega)
    exact lk_lines (.last h (fun t ht => by cases ht)) n m a b p q hp
  | succ N ih =>
    intro ts us hl h n m a b p q hp
    by_cases h4 : ∀ t ∈ ts, t.k ≠ 4
    · exact lk_lines (.last h h4) n m a b p q hp
    · obtain ⟨A, t, ts', e, hA, ht⟩ : ∃ A t ts', ts = A ++ t :: ts' ∧ (∀ x ∈ A, x.k ≠ 4) ∧ t.k = 4 := by
        clear ih h hl
        induction ts with
        | nil => exact absurd (fun t ht => by cases ht) h4
        | cons x r ihr =>
          by_cases hx : x.k = 4
          · exact ⟨[], x, r, rfl, (fun _ h => by cases h), hx⟩
          · obtain ⟨A, t, ts', e, hA, ht⟩ := ihr (fun hh => h4 fun y hy => by
              rcases List.mem_cons.1 hy with rfl | hy
              · exact hx
              · exact hh y hy)
            refine ⟨x :: A, t, ts', by rw [e]; rfl, fun y hy => ?_, ht⟩
            rcases List.mem_cons.1 hy with rfl | hy
            · exact hx
            · exact hA y hy
      subst e
      rw [List.map_append, List.map_cons] at h
      obtain ⟨B, us1, rfl, hB, h1⟩ := List.map_eq_append_iff.1 h.symm
      obtain ⟨u, us', rfl, hu, h2⟩ := List.map_eq_cons_iff.1 h1
      have huk : u.k = 4 := (show (zT u).k = (zT t).k from congrArg (fun x : Tk => x.k) hu).trans ht
      rw [List.append_assoc, List.append_assoc, List.cons_append, List.cons_append]
      rw [lines_one hA ht _ n p, lines_one (no4_z hB.symm hA) huk _ m q]
      have hx := add_alike (p := p) (q := q) (ts := A ++ [t]) (us := B ++ [u]) hp (by rw [List.map_append, List.map_append, hB, List.map_cons, List.map_cons, hu])
      cases hy : addR p (A ++ [t]) with
      | err c e =>
        rw [hy] at hx
        cases hw : addR q (B ++ [u]) with
        | err x' e' => rw [hw] at hx; exact hx
        | ok q' => rw [hw] at hx; cases hx
      | ok p' =>
        rw [hy] at hx
        cases hw : addR q (B ++ [u]) with
        | err x' e' => rw [hw] at hx; cases hx
        | ok q' =>
          rw [hw] at hx
          exact ih ts' us' (by simp only [List.length_append, List.length_cons] at hl; omega) h2.symm n m a b p' q' (by injection hx)
theorem same_read {l l' : List UInt8} {ts us : List Tk} (h1 : lexR l = .ok ts) (h2 : lexR l' = .ok us) (h : ts.map zT = us.map zT) {p : Pg} (hp : parseR l = .ok p) : ∃ q, parseR l' = .ok q ∧ zP q = zP p := by
  rw [pz_ok h1] at hp
  have e := same_lines _ ts us (Nat.le_refl _) h l.length l'.length l.length l'.length ⟨[], []⟩ ⟨[], []⟩ rfl
  rw [hp] at e
  obtain ⟨q, hq, hz⟩ := zR_ok (p := zP p) e.symm
  exact ⟨q, by rw [pz_ok h2]; exact hq, hz⟩
/-! ### tokens, blanks between them -/
def SpJ (bl : List UInt8) (us : List Tk) : Prop := ∀ (r : List UInt8) (a : Int), lexL (bl ++ r) a = Rs.pre (us.map (mv a)) (lexL r (a + bl.length))
theorem SpJ.nil : SpJ [] [] := fun r a => by simp [pre_nil]
theorem SpJ.snoc {bl : List UInt8} {us : List Tk} (h : SpJ bl us) {t : Tk} (ht : Sp t) : SpJ (bl ++ txt t ++ [32]) (us ++ [{ t with a := bl.length }]) := fun r a => by
  rw [List.append_assoc, List.append_assoc, h, List.singleton_append, lex_spelled ht, pre_pre, List.map_append]
  have e : Go.Proofs.YtbapgdhcbfpdoaaDoor.mv a { t with a := bl.length } = { t with a := a + bl.length } := by unfold mv; simp; omega
  rw [List.map_cons, List.map_nil, e]
  congr 2
  simp
  omega
theorem SpJ.blank {bl : List UInt8} {us : List Tk} (h : SpJ bl us) : SpJ (bl ++ [32]) us := fun r a => by
  rw [List.append_assoc, h, List.singleton_append, lex_skip (show piece 32 r = .skip 0 from rfl)]
  congr 2
  simp
  omega
theorem SpJ.read {bl : List UInt8} {us : List Tk} (h : SpJ bl us) (hl : bl.length ≤ 65536) : lexR bl = .ok us := by
  have h1 := h [] 0
  rw [List.append_nil, lex_nil] at h1
  unfold lexR
  rw [if_neg (by omega), h1]
  have e : us.map (mv 0) = us := by
    have : ∀ t : Tk, mv 0 t = t := fun t => by unfold mv; simp
    rw [show (mv 0) = id from funext this, List.map_id]
  rw [e]; simp [Rs.pre]
end Go.Proofs.YtbapgdhcbfpdoaaDoor
/- Parse's contract, its rows told; boxes that are stored anew. -/
namespace Go.Proofs.YtbapgdhcbfpdoaaDoor
open Go.RowKit
set_option linter.unusedVariables false
def ParOwn (w : World) (p : Pg) (n m : Nat) (e : Ending) (w' : World) : Prop := ∃ xs ls Ai ci Al cl, e = .returned (.tuple #[.agg #[.slice Ai n ci, .slice Al m cl], .agg #[.int .i64 0, .int .i64 0]]) ∧ pgOf xs ls = p ∧ PV w' w.heap.size xs ls (.slice Ai n ci) (.slice Al m cl) ∧ Below w.heap.size w w' ∧ n ≤ ci ∧ m ≤ cl
theorem parse_own (s : ByteArray) (w : World) (p : Pg) (n m : Nat) (hx : parseR s.data.toList = .ok p) (hn : p.ins.length = n) (hm : p.lns.length = m) (hL : LaidP w) (hs : s.size ≤ 140737488355328) : Calls Tryd.prog 11 #[.string s] w (ParOwn w p n m) := by
  refine (parse_any s w hL hs).mono fun e w' ⟨xs, ls, vi, vl, he, hp, hv, hb⟩ => ?_
  rw [hx] at he hp
  obtain ⟨Ai, ci, rfl, h1⟩ := row_shape hv.owi
  obtain ⟨Al, cl, rfl, h2⟩ := row_shape hv.owl
  have e1 : xs.length = n := by rw [← hn]; have := congrArg (fun p : Pg => p.ins.length) hp; simpa [pgOf, Pr.pg] using this
  have e2 : ls.length = m := by rw [← hm]; have := congrArg (fun p : Pg => p.lns.length) hp; simpa [pgOf, Pr.pg] using this
  rw [e1] at he h1 hv
  rw [e2] at he h2 hv
  exact ⟨xs, ls, Ai, ci, Al, cl, he, hp, hv, hb, h1, h2⟩
theorem PV.far {w w' : World} {B : Nat} {xs : List NM} {ls : List LM} {vi vl : Value} (h : PV w B xs ls vi vl) (hz : w.heap.size ≤ w'.heap.size) (hk : ∀ (b : Nat) (cs : Array Value) (T : TypeId) (fr : Nat × Nat), w.heap[b]? = some (.cells cs T fr) → T ≠ 25 → T ≠ 32 → w'.heap[b]? = w.heap[b]?) : PV w' B xs ls vi vl :=
  { owi := row_keep h.owi (fun k hk2 _ => by
      obtain ⟨cur, e⟩ := row_ty h.owi hk2
      exact hk k cur _ _ e (by decide) (by decide)) (Nat.le_refl _)
    owl := row_keep h.owl (fun k hk2 _ => by
      obtain ⟨cur, e⟩ := row_ty h.owl hk2
      exact hk k cur _ _ e (by decide) (by decide)) (Nat.le_refl _)
    its := fun m hm => ⟨RdI.grow (h.its m hm).1 hz fun b cs T fr e hT => hk b cs T fr e (by rcases hT with rfl | rfl <;> decide) (by rcases hT with rfl | rfl <;> decide), (h.its m hm).2⟩
    sds := fun m hm => ⟨RdS.grow (h.sds m hm).1 hz fun b cs fr e => hk b cs _ fr e (by decide) (by decide), (h.sds m hm).2⟩ }
/-- Both boxes stored anew. -/
def st4 (W : World) (k : Nat) (a b c d : Value) : World := (((W.setCell ⟨k, 0, none⟩ a).setCell ⟨k, 1, none⟩ b).setCell ⟨k + 1, 0, none⟩ c).setCell ⟨k + 1, 1, none⟩ d
theorem st4_at {W : World} {k : Nat} {a b c d x y z u : Value} (h1 : W.heap[k]? = some (.cells #[x, y] 25 (0, 0))) (h2 : W.heap[k + 1]? = some (.cells #[z, u] 32 (0, 0))) :
    (st4 W k a b c d).heap[k]? = some (.cells #[a, b] 25 (0, 0)) ∧ (st4 W k a b c d).heap[k + 1]? = some (.cells #[c, d] 32 (0, 0)) := by
  unfold st4
  constructor
  · rw [set_oth (by omega), set_oth (by omega), heap_setCell_same _ _ _ _ _ _ (heap_setCell_same _ _ _ _ _ _ h1)]; rfl
  · rw [heap_setCell_same _ _ _ _ _ _ (heap_setCell_same _ _ _ _ _ _ ((set_oth (by omega)).trans ((set_oth (by omega)).trans h2)))]; rfl
theorem st4_oth {W : World} {k j : Nat} {a b c d : Value} (h1 : ¬ j = k) (h2 : ¬ j = k + 1) : (st4 W k a b c d).heap[j]? = W.heap[j]? := by
  unfold st4
  rw [set_oth h2, set_oth h2, set_oth h1, set_oth h1]
theorem st4_bel (W : World) (k : Nat) (a b c d : Value) : Below k W (st4 W k a b c d) := by
  unfold st4
  exact ((set_bel W k 0 a).trans (set_bel _ k 1 b)).trans (((set_bel _ (k + 1) 0 c).trans (set_bel _ (k + 1) 1 d)).mono (Nat.le_succ k))
theorem st4_size (W : World) (k : Nat) (a b c d : Value) : (st4 W k a b c d).heap.size = W.heap.size := by
  unfold st4; simp [World.setCell]
theorem idxTk (b o len c k : Nat) (h1 : k < len) (w : World) : (Instr.indexAt 37 (.slice (some ⟨b, o, none⟩) len c) (.int .i64 (k : Int))).run Tryd.prog w = .ok (.pointer (some ⟨b, o + k * 4, none⟩)) w := by
  have e := WideShapes.add_plain b o (k * 4)
  have h0 : (0 : Int) ≤ (k : Int) ∧ (k : Int) < (len : Int) := by omega
  go_simp
def pgT : Pg := ⟨[], [⟨[], 0, [⟨1, 4, 0, [], [1]⟩, ⟨1, 6, 0, [], [2]⟩, ⟨4, 5, 1, [], []⟩]⟩]⟩
theorem readT : parseR [111, 117, 116, 32, 49, 43, 50] = .ok pgT := by rw [← parseF_eq (by decide)]; rfl
/-- The first reading, in its boxes. -/
structure BX (w : World) (k : Nat) (W : World) : Prop where
  h1 : ∃ x y, W.heap[k]? = some (.cells #[x, y] 25 (0, 0))
  h2 : ∃ x y, W.heap[k + 1]? = some (.cells #[x, y] 32 (0, 0))
  bel : Below w.heap.size w W
  la : LaidP W
  lt : w.heap.size ≤ k
theorem BX.next {w W W' : World} {k : Nat} (h : BX w k W) (b : Below W.heap.size W W') : BX w k W' := by
  obtain ⟨x, y, e1⟩ := h.h1
  obtain ⟨z, u, e2⟩ := h.h2
  exact ⟨⟨x, y, (b.block _ (heap_lt e1)).trans e1⟩, ⟨z, u, (b.block _ (heap_lt e2)).trans e2⟩, two_up2 h.bel b, h.la.below b, h.lt⟩
/-- A program and a fault, in boxes that stand. -/
structure SB (w : World) (k : Nat) (p : Pg) (Ai : Option Addr) (n ci : Nat) (Al : Option Addr) (m cl : Nat) (a c : Int) (W : World) : Prop where
  bp : BP w k p Ai n ci Al m cl W
  f0 : W.cell? ⟨k + 1, 0, none⟩ = some (.int .i64 a)
  f1 : W.cell? ⟨k + 1, 1, none⟩ = some (.int .i64 c)
  lt : k + 1 < W.heap.size
theorem SB.next {w W W' : World} {k : Nat} {p : Pg} {Ai : Option Addr} {n ci : Nat} {Al : Option Addr} {m cl : Nat} {a c : Int} (h : SB w k p Ai n ci Al m cl a c W) (b : Below W.heap.size W W') : SB w k p Ai n ci Al m cl a c W' :=
  ⟨h.bp.next b, (cell_below b h.lt _).trans h.f0, (cell_below b h.lt _).trans h.f1, Nat.lt_of_lt_of_le h.lt b.size⟩
theorem SB.of {w W : World} {k : Nat} {p : Pg} {Ai : Option Addr} {n ci : Nat} {Al : Option Addr} {m cl : Nat} {a c : Int} (hX : BX w k W) (hL : LaidP w) (h : PA (st4 W k (.slice Ai n ci) (.slice Al m cl) (.int .i64 a) (.int .i64 c)) p Ai Al n ci m cl) :
    SB w k p Ai n ci Al m cl a c (st4 W k (.slice Ai n ci) (.slice Al m cl) (.int .i64 a) (.int .i64 c)) := by
  obtain ⟨x, y, e1⟩ := hX.h1
  obtain ⟨z, u, e2⟩ := hX.h2
  obtain ⟨y1, y2⟩ := st4_at (a := .slice Ai n ci) (b := .slice Al m cl) (c := .int .i64 a) (d := .int .i64 c) e1 e2
  have hb : Below w.heap.size w (st4 W k (.slice Ai n ci) (.slice Al m cl) (.int .i64 a) (.int .i64 c)) := hX.bel.trans ((st4_bel W k _ _ _ _).mono hX.lt)
  refine ⟨⟨?_, ?_, heap_lt y1, hb, hL.below hb, h⟩, ?_, ?_, heap_lt y2⟩
  · rw [cell_of_row _ _ _ _ _ _ y1]; rfl
  · rw [cell_of_row _ _ _ _ _ _ y1]; rfl
  · rw [cell_of_row _ _ _ _ _ _ y2]; rfl
  · rw [cell_of_row _ _ _ _ _ _ y2]; rfl
theorem pa_empty (W : World) (Ai Al : Option Addr) (ci cl : Nat) : PA W ⟨[], []⟩ Ai Al 0 ci 0 cl := ⟨rfl, rfl, PU.empty _ _ _, ⟨fun _ h => (by cases h), fun _ h => (by cases h), Nat.zero_le _, Nat.zero_le _⟩, Nat.zero_le _, Nat.zero_le _, by decide⟩
theorem SB.read {w W : World} {k : Nat} {l : List UInt8} {p : Pg} {n m : Nat} {Ai : Option Addr} {ci : Nat} {Al : Option Addr} {cl B : Nat} {xs : List NM} {ls : List LM} (hX : BX w k W) (hL : LaidP w) (h : parseR l = .ok p) (hn : p.ins.length = n) (hm : p.lns.length = m) (hp : pgOf xs ls = p) (hv : PV W B xs ls (.slice Ai n ci) (.slice Al m cl)) (h1 : n ≤ ci) (h2 : m ≤ cl) :
    SB w k p Ai n ci Al m cl 0 0 (st4 W k (.slice Ai n ci) (.slice Al m cl) (.int .i64 0) (.int .i64 0)) := by
  refine SB.of hX hL ?_
  obtain ⟨x, y, e1⟩ := hX.h1
  obtain ⟨z, u, e2⟩ := hX.h2
  have hf := hv.far (w' := st4 W k (.slice Ai n ci) (.slice Al m cl) (.int .i64 0) (.int .i64 0)) (Nat.le_of_eq (st4_size W k _ _ _ _).symm) (fun b cs T fr e hT1 hT2 => st4_oth (fun e' => by
    subst e'
    rw [e] at e1
    injection e1 with e1
    injection e1 with _ e1 _
    exact hT1 e1) (fun e' => by
    subst e'
    rw [e] at e2
    injection e2 with e2
    injection e2 with _ e2 _
    exact hT2 e2))
  have e3 : n = xs.length := by rw [← hn, ← hp]; simp [pgOf]
  have e4 : m = ls.length := by rw [← hm, ← hp]; simp [pgOf]
  subst e3 e4
  have hr := hf.read
  rw [hp] at hr
  exact read_pa h hn hm hr h1 h2
theorem BX.frz {w W : World} {k : Nat} (h : BX w k W) : W.frozen? ⟨k, 0, none⟩ = false ∧ W.frozen? ⟨k, 1, none⟩ = false ∧ W.frozen? ⟨k + 1, 0, none⟩ = false ∧ W.frozen? ⟨k + 1, 1, none⟩ = false ∧ (∃ x y, W.cell? ⟨k, 0, none⟩ = some x ∧ W.cell? ⟨k, 1, none⟩ = some y) ∧ ∃ x y, W.cell? ⟨k + 1, 0, none⟩ = some x ∧ W.cell? ⟨k + 1, 1, none⟩ = some y := by
  obtain ⟨x, y, e1⟩ := h.h1
  obtain ⟨z, u, e2⟩ := h.h2
  refine ⟨frozen_of_row _ _ 0 _ _ e1, frozen_of_row _ _ 1 _ _ e1, frozen_of_row _ _ 0 _ _ e2, frozen_of_row _ _ 1 _ _ e2, ⟨x, y, ?_, ?_⟩, ⟨z, u, ?_, ?_⟩⟩
  · rw [cell_of_row _ _ _ _ _ _ e1]; rfl
  · rw [cell_of_row _ _ _ _ _ _ e1]; rfl
  · rw [cell_of_row _ _ _ _ _ _ e2]; rfl
  · rw [cell_of_row _ _ _ _ _ _ e2]; rfl
end Go.Proofs.YtbapgdhcbfpdoaaDoor
