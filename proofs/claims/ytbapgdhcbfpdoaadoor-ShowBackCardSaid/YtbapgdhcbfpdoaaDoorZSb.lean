/- Layer 4, put together: ShwC, ShwD. -/
import Derived.Test.YtbapgdhcbfpdoaaDoorZSa
/- What is shown is read as the program. Pure. -/
namespace Go.Proofs.YtbapgdhcbfpdoaaDoor
open Go.RowKit
theorem seg_k4 {l : List It} {p : Pt} {T : List Tk} (h : Seg l p T) : ∀ t ∈ T, t.k ≠ 4 := by
  have hv : ∀ x : It, ∀ t ∈ vtok x, t.k ≠ 4 := by
    intro x t ht
    unfold vtok at ht
    rcases List.mem_cons.1 ht with rfl | ht
    · unfold wtok; simp only; split <;> decide
    · split at ht
      · cases ht
      · simp only [List.mem_singleton] at ht; subst ht; simp
  induction h with
  | num x h1 h2 =>
    intro t ht
    obtain ⟨n, _, rfl⟩ := List.mem_map.1 ht
    show (2 : Int) ≠ 4; decide
  | nam x h1 h2 =>
    intro t ht
    simp only [List.mem_singleton] at ht
    subst ht
    show (1 : Int) ≠ 4; decide
  | mon x l p T _ h1 h2 ih =>
    intro t ht
    rcases List.mem_append.1 ht with ht | ht
    · exact hv x t ht
    · exact ih t ht
  | dy x l m p q T U _ _ h1 h2 ih ig =>
    intro t ht
    rcases List.mem_append.1 ht with ht | ht
    · rcases List.mem_append.1 ht with ht | ht
      · unfold btok at ht
        split at ht
        · exact ih t ht
        · rcases List.mem_cons.1 ht with rfl | ht
          · show (3 : Int) ≠ 4; decide
          · rcases List.mem_append.1 ht with ht | ht
            · exact ih t ht
            · simp only [List.mem_singleton] at ht; subst ht; show (3 : Int) ≠ 4; decide
      · exact hv x t ht
    · exact ig t ht
theorem expr_seg {l : List It} {p : Pt} {T : List Tk} (h : Seg l p T) (hn : p.ne ≤ 32) : exprR (T ++ [en0]) = .ok (l.map zI) := by
  have he : Ends (T ++ [en0]) := Ends.snoc _ _ rfl rfl
  have h4 : E4 (T ++ [en0]) := fun t ht hk => by
    rcases List.mem_append.1 ht with ht | ht
    · exact (seg_k4 h t ht hk).elim
    · simp only [List.mem_singleton] at ht; subst ht; rfl
  rw [whole_eq he h4]
  unfold rwhole
  rw [rx_seg h (T ++ [en0]).length 0 en0 [] (by simp) (by omega) ⟨vb_nil, .inl rfl⟩ (by decide)]
  rfl
/-- A line's tokens, and what stands behind them. -/
theorem lex_ln {t : List UInt8} {T : List Tk} (h : LX t T) (x : List UInt8) (a : Int) : ∃ ts, ts.map zT = T ∧ lexL (t ++ 10 :: x) a = Rs.pre (ts ++ [⟨4, a + t.length, [], 0⟩]) (lexL x (a + t.length + 1)) := by
  obtain ⟨ts, h1, h2⟩ := h.at a
  refine ⟨ts, h2, ?_⟩
  rw [lex_beh t.length t a (10 :: x) (Nat.le_refl _) (hard_nl x).1 (.inr fun c hc => (h.1 c hc).1), h1, lex_nl]
  show Rs.pre ts (Rs.pre _ _) = _
  rw [pre_pre]
theorem k4_z {ts T : List Tk} (h : ts.map zT = T) (h4 : ∀ t ∈ T, t.k ≠ 4) : ∀ t ∈ ts, t.k ≠ 4 := fun t ht => h4 (zT t) (by rw [← h]; exact List.mem_map.2 ⟨t, ht, rfl⟩)
/-- A line, places erased: what it makes of a program. -/
theorem line_z {ts T : List Tk} (h : ts.map zT = T) (h4 : ∀ t ∈ T, t.k ≠ 4) {p0 q0 : Pg} (hq : addR (zP p0) (T ++ [en0]) = .ok q0) (a e : Int) : ∃ p1, zP p1 = zP q0 ∧ ∀ us, linesR e p0 ((ts ++ [⟨4, a, [], 0⟩]) ++ us) = linesR e p1 us := by
  have h1 := add_z p0 (ts ++ [⟨4, a, [], 0⟩])
  have h2 : (ts ++ [(⟨4, a, [], 0⟩ : Tk)]).map zT = T ++ [en0] := by rw [List.map_append, h]; rfl
  rw [h2, hq] at h1
  obtain ⟨p1, h3, h5⟩ := zR_ok h1
  refine ⟨p1, h5, fun us => ?_⟩
  rw [List.append_assoc, List.singleton_append, lines_one (k4_z h h4) rfl, h3]
theorem compl_nil (x : List Inp) : compl ⟨x, []⟩ = false := rfl
theorem zP_ins (p : Pg) : (zP p).ins.length = p.ins.length := by simp [zP]
theorem zP_lns (p : Pg) : (zP p).lns.length = p.lns.length := by simp [zP]
theorem compl_zP (p : Pg) : compl (zP p) = compl p := compl_z p
theorem grow_out {T : List Tk} {l : List It} (h : exprR (T ++ [en0]) = .ok l) (hT : T.length + 1 ≤ 256) {p : Pg} (hc : compl p = false) (hn : p.ins.length + p.lns.length ≠ 64) : addR p (outT 0 :: T ++ [en0]) = .ok ⟨p.ins, p.lns ++ [⟨[], 0, l⟩]⟩ := by
  rw [add_outL hc hn, if_neg (by omega)]
  unfold addLnR
  rw [h]
theorem grow_named {T : List Tk} {l : List It} {nm : List UInt8} (hnm : nameB nm = true) (h : exprR (T ++ [en0]) = .ok l) (hT : T.length + 2 ≤ 256) {p : Pg} (hc : compl p = false) (hn : p.ins.length + p.lns.length ≠ 64) : addR p (⟨1, 0, nm, 0⟩ :: ⟨3, 0, [58], 0⟩ :: T ++ [en0]) = .ok ⟨p.ins, p.lns ++ [⟨nm, 0, l⟩]⟩ := by
  have hin : nm ≠ [105, 110] ∧ nm ≠ [111, 117, 116] := by
    unfold nameB at hnm
    simp only [Bool.and_eq_true, bne_iff_ne] at hnm
    exact ⟨hnm.1.2, hnm.2⟩
  show addR p (⟨1, 0, nm, 0⟩ :: (⟨3, 0, [58], 0⟩ :: T ++ [en0])) = _
  unfold addR
  simp only
  rw [if_neg (by decide), if_neg hn, if_neg (by simp; omega), if_neg (by rw [hc]; decide), if_neg hin.1, if_neg hin.2, if_neg (by rw [hnm]; decide)]
  show (if ([58] : List UInt8) ≠ [58] then _ else addLnR p nm 0 (T ++ [en0])) = _
  rw [if_neg (by decide)]
  unfold addLnR
  rw [h]
def sidT (d : List UInt8 × Int) : Tk := if d.1 = [] then ⟨2, 0, [], d.2⟩ else ⟨1, 0, d.1, 0⟩
def okS (d : List UInt8 × Int) : Prop := (d.1 = [] ∨ (d.2 = 0 ∧ nameB d.1 = true)) ∧ rng d.2
theorem sides_tok : ∀ (sd l : List (List UInt8 × Int)), (∀ d ∈ sd, okS d) → l.length + sd.length ≤ 4 → sidesR (sd.map sidT) l = .ok (l ++ sd)
  | [], l, _, _ => by simp [sidesR]
  | d :: r, l, h, hl => by
    have hd := h d (by simp)
    simp only [List.length_cons] at hl
    have ih := sides_tok r (l ++ [d]) (fun x hx => h x (by simp [hx])) (by simp; omega)
    rw [List.map_cons, sidesR]
    by_cases hn : d.1 = []
    · have e : sidT d = ⟨2, 0, [], d.2⟩ := by unfold sidT; rw [if_pos hn]
      rw [e, if_neg (by simp), if_neg (by omega)]
      show sidesR _ (l ++ [([], d.2)]) = _
      rw [show (([], d.2) : List UInt8 × Int) = d by rw [← hn], ih]
      simp
    · have h1 := hd.1.resolve_left hn
      have e : sidT d = ⟨1, 0, d.1, 0⟩ := by unfold sidT; rw [if_neg hn]
      rw [e, if_neg (by rw [h1.2]; simp), if_neg (by omega)]
      show sidesR _ (l ++ [(d.1, 0)]) = _
      rw [show ((d.1, 0) : List UInt8 × Int) = d by rw [← h1.1], ih]
      simp
theorem sidesP_ok : ∀ (sd : List (List UInt8 × Int)) (t : List UInt8), sidesP sd = some t → (∀ d ∈ sd, rng d.2) → (∀ d ∈ sd, okS d) ∧ LX t (sd.map sidT) ∧ (t = [] ∨ ∃ r, t = 32 :: r)
  | [], t, h, _ => by
    injection h with h
    subst h
    exact ⟨fun d hd => (by cases hd), LX.nil, .inl rfl⟩
  | d :: r, t, h, hr => by
    unfold sidesP at h
    by_cases hn : d.1 = []
    · rw [if_pos hn] at h
      obtain ⟨u, hu, rfl⟩ := Option.map_eq_some_iff.1 h
      obtain ⟨i1, i2, i3⟩ := sidesP_ok r u hu fun x hx => hr x (by simp [hx])
      refine ⟨fun x hx => ?_, ?_, .inr ⟨_, rfl⟩⟩
      · rcases List.mem_cons.1 hx with rfl | hx
        · exact ⟨.inl hn, hr x (by simp)⟩
        · exact i1 x hx
      · have hx := lx_num (hr d (by simp))
        have hc : LX (digs d.2 ++ u) ([⟨2, 0, [], d.2⟩] ++ r.map sidT) := hx.cat i2 (by rcases i3 with rfl | ⟨v, rfl⟩; exact hard_nil; exact hard_bl v)
        have e : sidT d = ⟨2, 0, [], d.2⟩ := by unfold sidT; rw [if_pos hn]
        rw [List.map_cons, e]
        exact hc.bl
    · rw [if_neg hn] at h
      by_cases h2 : d.2 = 0 ∧ nameB d.1 = true
      · rw [if_pos h2] at h
        obtain ⟨u, hu, rfl⟩ := Option.map_eq_some_iff.1 h
        obtain ⟨i1, i2, i3⟩ := sidesP_ok r u hu fun x hx => hr x (by simp [hx])
        refine ⟨fun x hx => ?_, ?_, .inr ⟨_, rfl⟩⟩
        · rcases List.mem_cons.1 hx with rfl | hx
          · exact ⟨.inr h2, hr x (by simp)⟩
          · exact i1 x hx
        · have hx := lx_name (name_word h2.2)
          have hc : LX (d.1 ++ u) ([⟨1, 0, d.1, 0⟩] ++ r.map sidT) := hx.cat i2 (by rcases i3 with rfl | ⟨v, rfl⟩; exact hard_nil; exact hard_bl v)
          have e : sidT d = ⟨1, 0, d.1, 0⟩ := by unfold sidT; rw [if_neg hn]
          rw [List.map_cons, e]
          exact hc.bl
      · rw [if_neg h2] at h; cases h
def inTk : Tk := ⟨1, 0, [105, 110], 0⟩
theorem inputP_ok {x : Inp} {t : List UInt8} (h : inputP x = some t) (hr : ∀ d ∈ x.sd, rng d.2) : nameB x.nm = true ∧ x.sd.length ≤ 4 ∧ (∀ d ∈ x.sd, okS d) ∧ LX t (inTk :: ⟨1, 0, x.nm, 0⟩ :: x.sd.map sidT) := by
  unfold inputP at h
  by_cases hc : nameB x.nm = false ∨ 4 < x.sd.length
  · rw [if_pos hc] at h; cases h
  rw [if_neg hc] at h
  obtain ⟨u, hu, rfl⟩ := Option.map_eq_some_iff.1 h
  obtain ⟨i1, i2, i3⟩ := sidesP_ok x.sd u hu hr
  have hnm : nameB x.nm = true := by
    cases e : nameB x.nm with
    | true => rfl
    | false => exact (hc (.inl e)).elim
  refine ⟨hnm, by omega, i1, ?_⟩
  have hin : LX [105, 110] [inTk] := LX.one rfl (by decide)
  have h2 := (lx_name (name_word hnm)).cat i2 (by rcases i3 with rfl | ⟨v, rfl⟩; exact hard_nil; exact hard_bl v)
  exact hin.cat h2.bl (hard_bl _)
theorem add_input {x : Inp} (hnm : nameB x.nm = true) (hl : x.sd.length ≤ 4) (hs : ∀ d ∈ x.sd, okS d) {p : Pg} (hp : p.lns = []) (hn : p.ins.length ≠ 64) : addR p (inTk :: ⟨1, 0, x.nm, 0⟩ :: x.sd.map sidT ++ [en0]) = .ok ⟨p.ins ++ [⟨x.nm, 0, x.sd⟩], p.lns⟩ := by
  show addR p (inTk :: (⟨1, 0, x.nm, 0⟩ :: x.sd.map sidT ++ [en0])) = _
  unfold addR
  simp only
  rw [if_neg (by decide), if_neg (by rw [hp]; simpa using hn), if_neg (by simp; omega), if_neg (by unfold compl; rw [hp]; simp), if_pos (show inTk.w = [105, 110] from rfl)]
  unfold addInR
  rw [if_neg (by rw [hp]; simp)]
  show (if (1 : Int) = 4 then _ else if nameB x.nm = false then _ else match sidesR (x.sd.map sidT ++ [en0]).dropLast [] with | .err a e => _ | .ok sd => _) = _
  rw [if_neg (by decide), if_neg (by rw [hnm]; decide), List.dropLast_concat, sides_tok x.sd [] hs (by simpa using hl)]
  rfl
def PgR (p : Pg) : Prop := (∀ m ∈ p.lns, ∀ x ∈ m.its, ∀ n ∈ x.ns, rng n) ∧ ∀ x ∈ p.ins, ∀ d ∈ x.sd, rng d.2
theorem zP_of {p q : Pg} (h : zP p = zP q) : p.ins.length = q.ins.length ∧ p.lns.length = q.lns.length ∧ compl p = compl q := by
  have e1 := congrArg (fun p : Pg => p.ins.length) h
  have e2 := congrArg (fun p : Pg => p.lns.length) h
  simp [zP] at e1 e2
  exact ⟨e1, e2, by rw [← compl_z p, h, compl_z]⟩
theorem zP_add (p0 : Pg) (x : List Inp) (m : List Ln) : zP ⟨(zP p0).ins ++ x, (zP p0).lns ++ m⟩ = ⟨(zP p0).ins ++ x.map zN, (zP p0).lns ++ m.map zL⟩ := by
  have h1 : (fun y => zN (zN y)) = zN := rfl
  have h2 : (fun y => zL (zL y)) = zL := funext fun y => (zL_zL y).symm
  unfold zP
  simp only [List.map_append, List.map_map, Function.comp_def, h1, h2]
theorem zL_mk {m : Ln} {nm : List UInt8} (h : nm = m.nm) : zL ⟨nm, 0, m.its.map zI⟩ = zL m := by
  subst h
  unfold zL
  simp only [zI_zI]
theorem back_ins : ∀ (xs : List Inp) (t : List UInt8), insP xs = some t → (∀ x ∈ xs, ∀ d ∈ x.sd, rng d.2) → ∀ (rest : List UInt8) (a : Int), ∃ TS, lexL (t ++ rest) a = Rs.pre TS (lexL rest (a + t.length)) ∧ ∀ (p0 : Pg) (e : Int), p0.lns = [] → p0.ins.length + xs.length ≤ 64 → ∃ p1, (∀ us, linesR e p0 (TS ++ us) = linesR e p1 us) ∧ p1.lns = [] ∧ zP p1 = ⟨(zP p0).ins ++ xs.map zN, []⟩
  | [], t, h, _, rest, a => by
    injection h with h
    subst h
    refine ⟨[], by rw [pre_nil]; simp, fun p0 e hp _ => ⟨p0, fun us => rfl, hp, ?_⟩⟩
    unfold zP
    rw [hp]; simp
  | x :: xs, t, h, hr, rest, a => by
    unfold insP at h
    obtain ⟨t1, h1, h2⟩ := Option.bind_eq_some_iff.1 h
    obtain ⟨t2, h3, rfl⟩ := Option.map_eq_some_iff.1 h2
    obtain ⟨i1, i2, i3, i4⟩ := inputP_ok h1 (hr x (by simp))
    obtain ⟨ts, hz, hlx⟩ := lex_ln i4 (t2 ++ rest) a
    have hk : ∀ t ∈ (inTk :: ⟨1, 0, x.nm, 0⟩ :: x.sd.map sidT), t.k ≠ 4 := by
      intro t ht
      rcases List.mem_cons.1 ht with rfl | ht
      · decide
      rcases List.mem_cons.1 ht with rfl | ht
      · show (1 : Int) ≠ 4; decide
      obtain ⟨d, _, rfl⟩ := List.mem_map.1 ht
      unfold sidT; split <;> simp
    obtain ⟨TS, j1, j2⟩ := back_ins xs t2 h3 (fun y hy => hr y (by simp [hy])) rest (a + t1.length + 1)
    refine ⟨ts ++ [⟨4, a + t1.length, [], 0⟩] ++ TS, ?_, fun p0 e hp hn => ?_⟩
    · rw [List.append_assoc, List.cons_append, hlx, j1, pre_pre, List.length_append, List.length_cons]
      congr 2
      omega
    · simp only [List.length_cons] at hn
      have hadd := add_input i1 i2 i3 (p := zP p0) (by unfold zP; rw [hp]; rfl) (by rw [zP_ins]; omega)
      obtain ⟨p1, h4, h5⟩ := line_z hz hk hadd (a + t1.length) e
      have e1 := zP_of h4
      have e2 := congrArg (fun p : Pg => p.ins) h4
      have hl1 : p1.lns = [] := by
        have := e1.2.1
        simp [zP, hp] at this
        exact this
      obtain ⟨p2, k1, k2, k3⟩ := j2 p1 e hl1 (by rw [e1.1]; simp [zP]; omega)
      refine ⟨p2, fun us => by rw [List.append_assoc, h5, k1], k2, ?_⟩
      rw [k3]
      have e3 : (zP p1).ins = (zP p0).ins ++ [zN x] := e2.trans (by simp [zP, zN])
      rw [e3]; simp
theorem back_lns : ∀ (ls : List Ln) (u : List UInt8), lnsP ls = some u → (∀ m ∈ ls, ∀ x ∈ m.its, ∀ n ∈ x.ns, rng n) → ∀ (a : Int), ∃ TS, lexL u a = .ok TS ∧ ∀ (p0 : Pg) (e b : Int), compl p0 = false → p0.ins.length + p0.lns.length + ls.length ≤ 64 → ∃ q, linesR e p0 (TS ++ [⟨4, b, [], 0⟩]) = .ok q ∧ zP q = ⟨(zP p0).ins, (zP p0).lns ++ ls.map zL⟩
  | [], u, h, _, a => by cases h
  | [m], u, h, hr, a => by
    have h : (if m.nm = [] then (exprP m.its 1).map fun t => [111, 117, 116, 32] ++ t ++ [10] else none) = some u := h
    by_cases hm : m.nm = []
    · rw [if_pos hm] at h
      obtain ⟨t, h1, rfl⟩ := Option.map_eq_some_iff.1 h
      obtain ⟨p, T, hs, _, ht, hn, rfl⟩ := exprP_seg h1
      have hlx := lex_seg hs (hr m (by simp))
      have hout : LX [111, 117, 116] [outT 0] := LX.one rfl (by decide)
      have hall : LX ([111, 117, 116, 32] ++ p.s) (outT 0 :: T) := hout.cat hlx.bl (hard_bl _)
      obtain ⟨ts, hz, hl⟩ := lex_ln hall [] a
      rw [lex_nil] at hl
      have hk : ∀ t ∈ (outT 0 :: T), t.k ≠ 4 := by
        intro t ht
        rcases List.mem_cons.1 ht with rfl | ht
        · decide
        · exact seg_k4 hs t ht
      refine ⟨ts ++ [⟨4, a + ([111, 117, 116, 32] ++ p.s).length, [], 0⟩], ?_, fun p0 e b hc hcnt => ?_⟩
      · have e1 : [111, 117, 116, 32] ++ p.s ++ [10] = ([111, 117, 116, 32] ++ p.s) ++ 10 :: [] := rfl
        rw [e1, hl]
        simp [Rs.pre]
      · simp only [List.length_cons, List.length_nil] at hcnt
        have hadd := grow_out (expr_seg hs hn) (by rw [← seg_len hs]; exact ht) (p := zP p0) (by rw [compl_zP, hc]) (by rw [zP_ins, zP_lns]; omega)
        obtain ⟨p1, h4, h5⟩ := line_z hz hk hadd (a + ([111, 117, 116, 32] ++ p.s).length) e
        have e1 := zP_of h4
        refine ⟨p1, ?_, ?_⟩
        · rw [h5, lines_skip, lines_nil, if_pos]
          rw [e1.2.2]
          simp [compl]
        · rw [h4]
          have := zP_add p0 [] [⟨[], 0, m.its.map zI⟩]
          rw [List.append_nil] at this
          rw [this, List.map_nil, List.append_nil, List.map_cons, List.map_nil, zL_mk hm.symm]
          rfl
    · rw [if_neg hm] at h; cases h
  | m :: m2 :: r, u, h, hr, a => by
    have h : (if nameB m.nm = false then none else (exprP m.its 2).bind fun t => (lnsP (m2 :: r)).map fun u => m.nm ++ [58, 32] ++ t ++ 10 :: u) = some u := h
    by_cases hm : nameB m.nm = false
    · rw [if_pos hm] at h; cases h
    rw [if_neg hm] at h
    have hm : nameB m.nm = true := by simpa using hm
    obtain ⟨t, h1, h2⟩ := Option.bind_eq_some_iff.1 h
    obtain ⟨u2, h3, rfl⟩ := Option.map_eq_some_iff.1 h2
    obtain ⟨p, T, hs, _, ht, hn, rfl⟩ := exprP_seg h1
    have hlx := lex_seg hs (hr m (by simp))
    have hcl : LX [58] [⟨3, 0, [58], 0⟩] := LX.one rfl (by decide)
    have hall : LX (m.nm ++ [58, 32] ++ p.s) (⟨1, 0, m.nm, 0⟩ :: ⟨3, 0, [58], 0⟩ :: T) := by
      have := (lx_name (name_word hm)).cat (hcl.cat hlx.bl (hard_bl _)) (hard_sg (by decide) (by decide) (by decide) _)
      simpa [List.append_assoc] using this
    obtain ⟨ts, hz, hl⟩ := lex_ln hall u2 a
    have hk : ∀ t ∈ ((⟨1, 0, m.nm, 0⟩ : Tk) :: ⟨3, 0, [58], 0⟩ :: T), t.k ≠ 4 := by
      intro t ht
      rcases List.mem_cons.1 ht with rfl | ht
      · simp
      rcases List.mem_cons.1 ht with rfl | ht
      · simp
      · exact seg_k4 hs t ht
    obtain ⟨TS, j1, j2⟩ := back_lns (m2 :: r) u2 h3 (fun y hy => hr y (by simp [hy])) (a + (m.nm ++ [58, 32] ++ p.s).length + 1)
    refine ⟨ts ++ [⟨4, a + (m.nm ++ [58, 32] ++ p.s).length, [], 0⟩] ++ TS, ?_, fun p0 e b hc hcnt => ?_⟩
    · rw [hl, j1]; rfl
    · simp only [List.length_cons] at hcnt
      have hadd := grow_named hm (expr_seg hs hn) (by rw [← seg_len hs]; exact ht) (p := zP p0) (by rw [compl_zP, hc]) (by rw [zP_ins, zP_lns]; omega)
      obtain ⟨p1, h4, h5⟩ := line_z hz hk hadd (a + (m.nm ++ [58, 32] ++ p.s).length) e
      have e1 := zP_of h4
      have hne : m.nm ≠ [] := by rintro e; rw [e] at hm; exact absurd hm (by decide)
      have hc1 : compl p1 = false := by
        rw [e1.2.2]
        simp [compl, hne]
      obtain ⟨q, k1, k2⟩ := j2 p1 e b hc1 (by rw [e1.1, e1.2.1]; simp [zP]; omega)
      refine ⟨q, by rw [List.append_assoc, h5, k1], ?_⟩
      have := zP_add p0 [] [⟨m.nm, 0, m.its.map zI⟩]
      rw [List.append_nil] at this
      rw [k2, h4, this, List.map_nil, List.append_nil, List.map_cons, List.map_nil, zL_mk rfl, List.map_cons, List.append_assoc]
      rfl
theorem show_back {p : Pg} {s : List UInt8} (h : textP p = some s) (hr : PgR p) (hl : s.length ≤ 65536) : ∃ q, parseR s = .ok q ∧ zP q = zP p := by
  unfold textP at h
  split at h
  · cases h
  rename_i hc
  obtain ⟨t, h1, h2⟩ := Option.bind_eq_some_iff.1 h
  obtain ⟨u, h3, rfl⟩ := Option.map_eq_some_iff.1 h2
  obtain ⟨TS, j1, j2⟩ := back_ins p.ins t h1 hr.2 u 0
  obtain ⟨US, k1, k2⟩ := back_lns p.lns u h3 hr.1 (0 + t.length)
  obtain ⟨p1, m1, m2, m3⟩ := j2 ⟨[], []⟩ ((t ++ u).length : Nat) rfl (by simp; omega)
  have hi1 : p1.ins.length = p.ins.length := by have := congrArg (fun p : Pg => p.ins.length) m3; simpa [zP] using this
  obtain ⟨q, n1, n2⟩ := k2 p1 ((t ++ u).length : Nat) ((t ++ u).length : Nat) (by unfold compl; rw [m2]; rfl) (by rw [m2, hi1]; simp; omega)
  refine ⟨q, ?_, ?_⟩
  · have hlx : lexR (t ++ u) = .ok (TS ++ US) := by
      unfold lexR
      rw [if_neg (by omega), j1, k1]
      rfl
    rw [pz_ok hlx, List.append_assoc, m1]
    exact n1
  · rw [n2, m3]
    simp [zP]
end Go.Proofs.YtbapgdhcbfpdoaaDoor
/- What is read may be shown, with no more tokens. Pure. -/
namespace Go.Proofs.YtbapgdhcbfpdoaaDoor
open Go.RowKit
theorem opens_no (d : Nat) : opens (List.replicate d none) = d := by
  induction d with
  | zero => rfl
  | succ d ih => rw [List.replicate_succ]; simp only [opens]; omega
theorem words_all : (vtab.all fun e => ((e.2.1 == 0) || (verbW e.2.1 false != [])) && ((e.2.2 == 0) || (verbW e.2.2 true != []))) = true := by decide +kernel
theorem word_of {w : List UInt8} {two : Bool} (h : verbR w two ≠ 0) : verbW (verbR w two) two ≠ [] := by
  rcases vlook_mem vtab w with h1 | ⟨v, h1⟩
  · exfalso
    apply h
    unfold verbR
    rw [h1]; cases two <;> rfl
  · have h2 := List.all_eq_true.1 words_all _ h1
    simp only [Bool.and_eq_true, Bool.or_eq_true, beq_iff_eq, bne_iff_ne] at h2
    unfold verbR at h ⊢
    cases two with
    | true => exact h2.2.resolve_left h
    | false => exact h2.1.resolve_left h
theorem betw_is {w : List UInt8} (h : betw w ≠ 0) : betw w = verbR w true := by
  unfold betw at h ⊢
  split at h
  · exact (h rfl).elim
  · rename_i hc; rw [if_neg hc]
theorem ph_ok {w : List UInt8} {b : Bool} {m : List UInt8} (a : Int) (h : (phR w b m).2 ≠ 0) : okI ⟨(phR w b m).1, a, (phR w b m).2, [], []⟩ = true ∧ twoI ⟨(phR w b m).1, a, (phR w b m).2, [], []⟩ = b ∧ (((phR w b m).1 = 3 ∨ (phR w b m).1 = 4) ↔ m = []) := by
  have key : ∀ (how f : Int), 3 ≤ how → how ≤ 7 → verbW f (how != 3) ≠ [] → (how = 3 ∨ how = 4 ∨ tk2 f = true) → okI ⟨how, a, f, [], []⟩ = true := by
    intro how f h1 h2 h3 h4
    unfold okI
    simp only [Bool.and_eq_true, decide_eq_true_eq, Bool.or_eq_true, beq_iff_eq]
    exact ⟨⟨h1, h2, trivial, trivial, h3⟩, by rcases h4 with h4 | h4 | h4; exact .inl (.inl h4); exact .inl (.inr h4); exact .inr h4⟩
  unfold phR at h ⊢
  by_cases c1 : m = [47] ∧ b = false
  · rw [if_pos c1] at h ⊢
    have h0 : betw w ≠ 0 := h
    exact ⟨key 5 (betw w) (by decide) (by decide) (by rw [betw_is h0]; exact word_of (two := true) (by rw [← betw_is h0]; exact h0)) (.inr (.inr (betw_two h0).1)), by rw [c1.2]; rfl, by rw [c1.1]; simp⟩
  rw [if_neg c1] at h ⊢
  by_cases c2 : m = [92] ∧ b = false
  · rw [if_pos c2] at h ⊢
    have h0 : betw w ≠ 0 := h
    exact ⟨key 6 (betw w) (by decide) (by decide) (by rw [betw_is h0]; exact word_of (two := true) (by rw [← betw_is h0]; exact h0)) (.inr (.inr (betw_two h0).1)), by rw [c2.2]; rfl, by rw [c2.1]; simp⟩
  rw [if_neg c2] at h ⊢
  by_cases c3 : m = [46] ∧ b = true
  · rw [if_pos c3] at h ⊢
    have h0 : betw w ≠ 0 := h
    exact ⟨key 7 (betw w) (by decide) (by decide) (by rw [betw_is h0]; exact word_of (two := true) (by rw [← betw_is h0]; exact h0)) (.inr (.inr (betw_two h0).1)), by rw [c3.2]; rfl, by rw [c3.1]; simp⟩
  rw [if_neg c3] at h ⊢
  by_cases c4 : m = [] ∧ b = true
  · rw [if_pos c4] at h ⊢
    have h0 : verbR w true ≠ 0 := h
    exact ⟨key 4 _ (by decide) (by decide) (word_of h0) (.inr (.inl rfl)), by rw [c4.2]; rfl, by rw [c4.1]; simp⟩
  rw [if_neg c4] at h ⊢
  by_cases c5 : m = []
  · rw [if_pos c5] at h ⊢
    have h0 : verbR w false ≠ 0 := h
    have hb : b = false := by cases b; rfl; exact (c4 ⟨c5, rfl⟩).elim
    exact ⟨key 3 _ (by decide) (by decide) (word_of h0) (.inl rfl), by rw [hb]; rfl, by rw [c5]; simp⟩
  · rw [if_neg c5] at h; exact (h rfl).elim
theorem mk_two (r : List Tk) : mk r = ([], r) ∨ ∃ m r', mk r = (m, r') ∧ m ≠ [] ∧ r.length = r'.length + 1 := by
  cases r with
  | nil => exact .inl rfl
  | cons t r =>
    rw [mk_c]
    by_cases h : t.w = [47] ∨ t.w = [92] ∨ t.w = [46]
    · rw [if_pos h]
      exact .inr ⟨_, _, rfl, by rcases h with h | h | h <;> rw [h] <;> simp, rfl⟩
    · rw [if_neg h]; exact .inl rfl
/-- How many tokens a verb takes. -/
theorem mk_tk {w : List UInt8} {b : Bool} {r : List Tk} (h : (phR w b (mk r).1).2 ≠ 0) : (if (phR w b (mk r).1).1 = 3 ∨ (phR w b (mk r).1).1 = 4 then 1 else 2) + (mk r).2.length = r.length + 1 := by
  have hp := (ph_ok 0 h).2.2
  rcases mk_two r with e | ⟨m, r', e, hm, hl⟩
  · rw [e] at hp ⊢
    rw [if_pos (hp.2 rfl)]
    simp only
    omega
  · rw [e] at hp ⊢
    rw [if_neg (fun h => hm (hp.1 h))]
    simp only
    omega
theorem nums_len2 : ∀ r : List Tk, (numsOf r).length + (pastNums r).length = r.length
  | [] => rfl
  | t :: r => by
    by_cases h : t.k = 2
    · rw [nn_num h, pn_num h]
      have := nums_len2 r
      simp only [List.length_cons]
      omega
    · rw [nn_not h, pn_not h]; simp
def Short (d : Nat) (its : List It) (k : Nat) (rest : List Tk) : Prop := ∃ p T, Seg its p T ∧ p.tk + rest.length ≤ k ∧ d + p.ne ≤ 32 ∧ its.length + rest.length ≤ k
def ShortB (d : Nat) (its : List It) (k : Nat) (rest : List Tk) : Prop := ∃ p T, Seg its p T ∧ (brkP p).tk + rest.length ≤ k ∧ d + (brkP p).ne ≤ 32 ∧ its.length + rest.length ≤ k
theorem ShortB.to {d : Nat} {its : List It} {k : Nat} {rest : List Tk} (h : ShortB d its k rest) : Short d its k rest := by
  obtain ⟨p, T, h1, h2, h3, h4⟩ := h
  refine ⟨p, T, h1, ?_, ?_, h4⟩
  · have : p.tk ≤ (brkP p).tk := by unfold brkP; split <;> simp
    omega
  · have : p.ne ≤ (brkP p).ne := by unfold brkP; split <;> simp
    omega
theorem ropd_short {n d : Nat} (ih : ∀ (ts : List Tk) (its : List It) (rest : List Tk), ts.length ≤ 257 → Ends ts → E4 ts → ts.length ≤ n → d + 1 ≤ 32 → rx n (d + 1) ts = .ok its rest → Short (d + 1) its ts.length rest) (hd : d ≤ 32) {t : Tk} {r : List Tk} (hl : r.length ≤ 256) (he : Ends (t :: r)) (h4 : E4 (t :: r)) (hn : r.length ≤ n) {left : List It} {rest : List Tk} (h : ropd (rx n (d + 1)) d t r = .ok left rest) : ShortB d left (r.length + 1) rest := by
  unfold ropd at h
  by_cases h2 : t.k = 2
  · rw [if_pos h2] at h
    injection h with e1 e2
    subst e1 e2
    have hr : Ends r := he.next fun e => by omega
    have hp := hr.past.pos
    have hlen := nums_len2 r
    have hx : opdP ⟨1, t.a, 0, [], t.n :: numsOf r⟩ = ⟨numsT (t.n :: numsOf r), true, (numsOf r).length + 1, 0⟩ := by
      unfold opdP
      simp only
      rw [if_neg (by simp), if_neg (by decide), if_neg (by simp; omega)]
      rfl
    refine ⟨_, _, .num ⟨1, t.a, 0, [], t.n :: numsOf r⟩ rfl (by rw [hx]; simp), ?_, ?_, ?_⟩
    · rw [hx]
      show (numsOf r).length + 1 + _ ≤ _
      omega
    · rw [hx]
      show d + 0 ≤ 32
      omega
    · simp only [List.length_cons, List.length_nil]; omega
  rw [if_neg h2] at h
  by_cases hn2 : nameB t.w = true
  · rw [if_pos hn2] at h
    injection h with e1 e2
    subst e1 e2
    have hx : opdP ⟨2, t.a, 0, t.w, []⟩ = ⟨t.w, true, 1, 0⟩ := by
      unfold opdP
      simp only
      rw [if_neg (by simp), if_pos trivial, if_neg (by rw [hn2]; simp)]
    refine ⟨_, _, .nam ⟨2, t.a, 0, t.w, []⟩ rfl (by rw [hx]; simp), ?_, ?_, ?_⟩
    · rw [hx]
      show 1 + r.length ≤ _
      omega
    · rw [hx]
      show d + 0 ≤ 32
      omega
    · simp only [List.length_cons, List.length_nil]; omega
  rw [if_neg hn2] at h
  by_cases h40 : t.w = [40]
  · rw [if_pos h40] at h
    by_cases hd32 : d = 32
    · rw [if_pos hd32] at h; cases h
    rw [if_neg hd32] at h
    have hr : Ends r := he.next fun e => by rw [e.2] at h40; cases h40
    cases hx : rx n (d + 1) r with
    | err a e => rw [hx] at h; cases h
    | ok its rest0 =>
      rw [hx] at h
      obtain ⟨p, T, i1, i2, i3, i4⟩ := ih r its rest0 (by omega) hr (h4.suf (List.suffix_cons _ _)) hn (by omega) hx
      cases rest0 with
      | nil => cases h
      | cons u r' =>
        have h : (if u.w = [41] then Rx.ok its r' else .err u.a 42) = .ok left rest := h
        by_cases h41 : u.w = [41]
        · rw [if_pos h41] at h
          injection h with e1 e2
          subst e1 e2
          simp only [List.length_cons] at i2 i4
          refine ⟨p, T, i1, ?_, ?_, by omega⟩
          · have : (brkP p).tk ≤ p.tk + 2 := by unfold brkP; split <;> simp
            omega
          · have : (brkP p).ne ≤ p.ne + 1 := by unfold brkP; split <;> simp
            omega
        · rw [if_neg h41] at h; cases h
  rw [if_neg h40] at h
  split at h <;> cases h
theorem rx_short : ∀ (n d : Nat) (ts : List Tk) (its : List It) (rest : List Tk), ts.length ≤ 257 → Ends ts → E4 ts → ts.length ≤ n → d ≤ 32 → rx n d ts = .ok its rest → Short d its ts.length rest := by
  intro n
  induction n with
  | zero => intro d ts its rest _ he _ hn; have := he.pos; omega
  | succ n ih =>
    intro d ts its rest hl he h4 hn hd h
    cases ts with
    | nil => exact he.elim
    | cons t r =>
      simp only [List.length_cons] at hl hn ⊢
      rw [rx_cons] at h
      by_cases hv : vb t.w = true
      · rw [if_pos hv] at h
        by_cases h0 : (phR t.w false (mk r).1).2 = 0
        · rw [if_pos h0] at h; cases h
        rw [if_neg h0] at h
        have hr : Ends r := he.next fun e => by rw [e.2, vb_nil] at hv; cases hv
        have hml := mk_len r
        cases hx : rx n d (mk r).2 with
        | err a e => rw [hx] at h; cases h
        | ok l rest0 =>
          rw [hx] at h
          injection h with e1 e2
          subst e1 e2
          obtain ⟨p, T, i1, i2, i3, i4⟩ := ih d (mk r).2 l rest0 (by omega) hr.mk (h4.suf ((mk_suf r).trans (List.suffix_cons _ _))) (by omega) hd hx
          have hp := ph_ok t.a h0
          have ht := mk_tk h0
          refine ⟨_, _, .mon ⟨(phR t.w false (mk r).1).1, t.a, (phR t.w false (mk r).1).2, [], []⟩ l p T i1 hp.1 hp.2.1, ?_, i3, ?_⟩
          · show (if (phR t.w false (mk r).1).1 = 3 ∨ (phR t.w false (mk r).1).1 = 4 then 1 else 2) + p.tk + rest0.length ≤ _
            omega
          · simp only [List.length_append, List.length_cons, List.length_nil]
            split at ht <;> omega
      · rw [if_neg hv] at h
        cases hy : ropd (rx n (d + 1)) d t r with
        | err a e => rw [hy] at h; cases h
        | ok left rest0 =>
          rw [hy] at h
          have hs := ropd_short (fun ts its rest a b c e f g => ih (d + 1) ts its rest a b c e f g) hd (by omega) he h4 (by omega) hy
          have hopd := opd_ok (n := n) (d := d) (fun ts l s a b c e => rx_ok n (d + 1) ts l s a b c e) t r [] (List.replicate d none) (by omega) he h4 hv (opens_no d)
          rw [hy] at hopd
          have h : rtail (rx n d) left rest0 = .ok its rest := h
          cases rest0 with
          | nil => cases h
          | cons u r' =>
            rw [rtail_cons] at h
            by_cases hc : u.k = 4 ∨ u.w = [41]
            · rw [if_pos hc] at h
              injection h with e1 e2
              subst e1 e2
              exact hs.to
            rw [if_neg hc] at h
            by_cases hvu : vb u.w = true
            · rw [if_pos hvu] at h
              by_cases h0 : (phR u.w true (mk r').1).2 = 0
              · rw [if_pos h0] at h; cases h
              rw [if_neg h0] at h
              obtain ⟨p, T, i1, i2, i3, i4⟩ := hs
              simp only [List.length_cons] at i2 i4
              have hru : Ends r' := hopd.2.1.next fun e => hc (.inl e.1)
              have hml := mk_len r'
              cases hx : rx n d (mk r').2 with
              | err a e => rw [hx] at h; cases h
              | ok l rest1 =>
                rw [hx] at h
                injection h with e1 e2
                subst e1 e2
                obtain ⟨q, U, j1, j2, j3, j4⟩ := ih d (mk r').2 l rest1 (by omega) hru.mk (h4.suf ((mk_suf r').trans ((List.suffix_cons _ _).trans (hopd.2.2.trans (List.suffix_cons _ _))))) (by omega) hd hx
                have hp := ph_ok u.a h0
                have ht := mk_tk h0
                refine ⟨_, _, .dy ⟨(phR u.w true (mk r').1).1, u.a, (phR u.w true (mk r').1).2, [], []⟩ left l p q T U i1 j1 hp.1 hp.2.1, ?_, ?_, ?_⟩
                · show (brkP p).tk + (if (phR u.w true (mk r').1).1 = 3 ∨ (phR u.w true (mk r').1).1 = 4 then 1 else 2) + q.tk + rest1.length ≤ _
                  omega
                · show d + max (brkP p).ne q.ne ≤ 32
                  omega
                · simp only [List.length_append, List.length_cons, List.length_nil]
                  split at ht <;> omega
            · rw [if_neg hvu] at h; cases h
/-- An expression that is read, shown. -/
theorem expr_short {ts : List Tk} {its : List It} (hl : ts.length ≤ 257) (he : Ends ts) (h4 : E4 ts) (h : exprR ts = .ok its) : ∃ p T, Seg its p T ∧ p.tk + 1 ≤ ts.length ∧ p.ne ≤ 32 ∧ its.length + 1 ≤ ts.length := by
  rw [whole_eq he h4] at h
  unfold rwhole at h
  cases hx : rx ts.length 0 ts with
  | err a e => rw [hx] at h; cases h
  | ok l rest =>
    rw [hx] at h
    obtain ⟨p, T, i1, i2, i3, i4⟩ := rx_short ts.length 0 ts l rest hl he h4 (Nat.le_refl _) (by omega) hx
    cases rest with
    | nil => cases h
    | cons u r =>
      have h : (if u.k = 4 then Er.ok l else .err u.a 46) = .ok its := h
      by_cases hk : u.k = 4
      · rw [if_pos hk] at h
        injection h with h
        subst h
        simp only [List.length_cons] at i2 i4
        exact ⟨p, T, i1, by omega, by omega, by omega⟩
      · rw [if_neg hk] at h; cases h
end Go.Proofs.YtbapgdhcbfpdoaaDoor
