/- Layer 4, put together: LexK, LexL, LexP, LexQ, LexR, LexT, LexU, LexV. -/
import Derived.Test.YtbapgdhcbfpdoaaGreatDoorZLb
import Derived.Test.YtbapgdhcbfpdoaaGreatDoorZLc
import Derived.Laws.IdiomStrings
import Derived.Lib.ItoaLen
/- Contracts of the document's answers for layer 3: Lex. -/
namespace Go.Proofs.YtbapgdhcbfpdoaaGreatDoor
open Go.RowKit

theorem next_at (b : UInt8) (r : List UInt8) (s : ByteArray) (k : Nat) (w : World) (t : Tk) (n e : Int) (hx : nextR k b r = (t, n, e)) (hs : s.size ≤ 140737488355328) (hl : s.data.toList.drop k = b :: r) (h0 : blB b = false ∧ b.toNat ≠ 35) : Calls Tryz.prog 67 #[.string s, .int .i64 k] w (AnsT w t n e) := by
  have h := next_any b r s k w hs hl h0
  rw [hx] at h
  exact h
/-- What Next's answer says of the text. -/
theorem next_sel {k : Nat} {b : UInt8} {r : List UInt8} (h0 : blB b = false ∧ b.toNat ≠ 35) {t : Tk} {n e : Int} (hx : nextR k b r = (t, n, e)) :
    (e ≠ 0 → lexL (b :: r) k = .err k e) ∧ (e = 0 → ∃ m : Nat, n = (k + m : Nat) ∧ 0 < m ∧ m ≤ r.length + 1 ∧ lexL (b :: r) (k : Int) = Rs.pre [t] (lexL ((b :: r).drop m) ((k : Int) + m))) := by
  unfold nextR at hx
  split at hx
  · rename_i kd w v j hp
    injection hx with h1 h2
    injection h2 with h2 h3
    subst h1 h2 h3
    refine ⟨fun h => (h rfl).elim, fun _ => ⟨j + 1, by omega, by omega, by have := piece_le hp; omega, ?_⟩⟩
    rw [lex_tok hp, List.drop_succ_cons]
    congr 2
    omega
  · rename_i e' hp
    injection hx with h1 h2
    injection h2 with h2 h3
    subst h1 h2 h3
    refine ⟨fun _ => lex_bad hp _, fun h => ?_⟩
    exfalso
    subst h
    unfold piece at hp
    split at hp
    · cases hp
    split at hp
    · cases hp
    split at hp
    · cases hp
    split at hp
    · split at hp <;> cases hp
    split at hp
    · unfold numP at hp; split at hp <;> cases hp
    split at hp
    · unfold numP at hp; split at hp <;> cases hp
    split at hp
    · cases hp
    split at hp <;> cases hp
  · rename_i j hp
    rcases piece_skip hp with ⟨h, _⟩ | ⟨_, h⟩
    · rw [h0.1] at h; cases h
    · exfalso
      have h1 := h []
      unfold piece at h1
      rw [if_neg (by rw [h0.1]; simp), if_neg h0.2] at h1
      split at h1
      · cases h1
      split at h1
      · split at h1 <;> cases h1
      split at h1
      · exact numP_skip h1
      split at h1
      · exact numP_skip h1
      split at h1
      · cases h1
      split at h1 <;> cases h1
theorem bl_skip {b : UInt8} {r : List UInt8} (h : blB b = true) (a : Int) : lexL (b :: r) a = lexL ((b :: r).drop 1) (a + 1) := by
  have hp : piece b r = .skip 0 := by unfold piece; rw [if_pos h]
  rw [lex_skip hp]; simp
end Go.Proofs.YtbapgdhcbfpdoaaGreatDoor
/- Contract of the document's answers for layer 3: Lex. -/
namespace Go.Proofs.YtbapgdhcbfpdoaaGreatDoor
open Go.RowKit

/-- What lies in the call's first block. -/
def Base2 (n : Nat) (wr : World) : Prop := wr.cell? ⟨n, 0, none⟩ = some (.int .i64 0) ∧ wr.cell? ⟨n, 1, none⟩ = some (.int .i64 0) ∧ wr.frozen? ⟨n, 0, none⟩ = false ∧ wr.frozen? ⟨n, 1, none⟩ = false
theorem Base2.below {n : Nat} {w0 wr : World} {B : Nat} (h : Base2 n w0) (hb : Below B w0 wr) (hn : n < B) : Base2 n wr := by
  have e : ∀ o, wr.cell? ⟨n, o, none⟩ = w0.cell? ⟨n, o, none⟩ := fun o => hb.cell (p := ⟨n, o, none⟩) hn
  have f : ∀ o, wr.frozen? ⟨n, o, none⟩ = w0.frozen? ⟨n, o, none⟩ := fun o => hb.frozen (p := ⟨n, o, none⟩) hn
  obtain ⟨h1, h2, h3, h4⟩ := h
  exact ⟨by rw [e]; exact h1, by rw [e]; exact h2, by rw [f]; exact h3, by rw [f]; exact h4⟩
theorem note_run {b : UInt8} {r : List UInt8} {s : ByteArray} {k j : Nat} (hl : s.data.toList.drop k = b :: r) (hb : b.toNat = 35) (h : run nlB (s.data.toList.drop k) = j - k) (a : Int) : 0 < j - k ∧ lexL (b :: r) a = lexL ((b :: r).drop (j - k)) (a + (j - k : Nat)) := by
  have hi : idleR b r = run nlB r + 1 := by unfold idleR; rw [if_pos hb]
  rw [hl, run_cons, if_pos (by unfold nlB; simp [hb])] at h
  have h1 := idle_lex b r a (by rw [hi]; omega)
  rw [hi, h] at h1
  exact ⟨by omega, h1⟩
end Go.Proofs.YtbapgdhcbfpdoaaGreatDoor
/- Contracts: read, Same; tokens and faults compared. -/
namespace Go.Proofs.YtbapgdhcbfpdoaaGreatDoor
open Go.RowKit

theorem tk_eq (x y : Tk) : x = y ↔ x.k = y.k ∧ x.a = y.a ∧ x.w = y.w ∧ x.n = y.n := by
  cases x; cases y; simp
set_option maxHeartbeats 400000 in
theorem neqT (x y : Tk) (w : World) : (binOp .neq 56 (.agg #[.int .i64 x.k, .int .i64 x.a, .string (bs x.w), .int .i64 x.n]) (.agg #[.int .i64 y.k, .int .i64 y.a, .string (bs y.w), .int .i64 y.n])).run Tryz.prog w = .ok (.bool (!decide (x = y))) w := by
  go_simp
  rw [ByteArray.toList_eq, ByteArray.toList_eq, bs_list, bs_list]
  by_cases h1 : x.k = y.k <;> by_cases h2 : x.a = y.a <;> by_cases h3 : x.w = y.w <;> by_cases h4 : x.n = y.n <;> simp [h1, h2, h3, h4, tk_eq]
set_option maxHeartbeats 400000 in
theorem eqT (x y : Tk) (w : World) : (binOp .eql 56 (.agg #[.int .i64 x.k, .int .i64 x.a, .string (bs x.w), .int .i64 x.n]) (.agg #[.int .i64 y.k, .int .i64 y.a, .string (bs y.w), .int .i64 y.n])).run Tryz.prog w = .ok (.bool (decide (x = y))) w := by
  go_simp
  rw [ByteArray.toList_eq, ByteArray.toList_eq, bs_list, bs_list]
  by_cases h1 : x.k = y.k <;> by_cases h2 : x.a = y.a <;> by_cases h3 : x.w = y.w <;> by_cases h4 : x.n = y.n <;> simp [h1, h2, h3, h4, tk_eq]
set_option maxHeartbeats 400000 in
theorem eqF (a e b f : Int) (w : World) : (binOp .eql 41 (.agg #[.int .i64 a, .int .i64 e]) (.agg #[.int .i64 b, .int .i64 f])).run Tryz.prog w = .ok (.bool (decide (a = b ∧ e = f))) w := by
  go_simp
  by_cases h1 : a = b <;> by_cases h2 : e = f <;> simp [h1, h2]
set_option maxHeartbeats 400000 in
theorem neqF (a e b f : Int) (w : World) : (binOp .neq 41 (.agg #[.int .i64 a, .int .i64 e]) (.agg #[.int .i64 b, .int .i64 f])).run Tryz.prog w = .ok (.bool (!decide (a = b ∧ e = f))) w := by
  go_simp
  by_cases h1 : a = b <;> by_cases h2 : e = f <;> simp [h1, h2]

/-! ### faults are told by their code -/
theorem bad_ne {b : UInt8} {r : List UInt8} {e : Int} (hp : piece b r = .bad e) : e ≠ 0 := by
  intro h
  subst h
  unfold piece at hp
  split at hp
  · cases hp
  split at hp
  · cases hp
  split at hp
  · cases hp
  split at hp
  · split at hp <;> cases hp
  split at hp
  · unfold numP at hp; split at hp <;> cases hp
  split at hp
  · unfold numP at hp; split at hp <;> cases hp
  split at hp
  · cases hp
  split at hp <;> cases hp
theorem lex_err_ne : ∀ (n : Nat) (l : List UInt8) (a : Int), l.length ≤ n → ∀ p e, lexL l a = .err p e → e ≠ 0 := by
  intro n
  induction n with
  | zero =>
    intro l a hl p e h
    obtain rfl : l = [] := List.length_eq_zero_iff.1 (by omega)
    rw [lex_nil] at h; cases h
  | succ n ih =>
    intro l a hl p e h
    cases l with
    | nil => rw [lex_nil] at h; cases h
    | cons b r =>
      simp at hl
      cases hp : piece b r with
      | skip k => rw [lex_skip hp] at h; exact ih _ _ (by rw [List.length_drop]; omega) _ _ h
      | tok kd w v k => rw [lex_tok hp] at h; exact ih _ _ (by rw [List.length_drop]; omega) _ _ (pre_err h)
      | bad e' => rw [lex_bad hp] at h; injection h with h1 h2; subst h2; exact bad_ne hp
theorem lexR_ne {l : List UInt8} {p e : Int} (h : lexR l = .err p e) : e ≠ 0 := by
  unfold lexR at h
  split at h
  · injection h with h1 h2; omega
  · exact lex_err_ne _ _ _ (Nat.le_refl _) _ _ h
def Rs.good : Rs → Bool
  | .ok _ => true
  | .err _ _ => false
theorem good_of {l : List UInt8} : (lexR l).good = decide ((lexR l).fa = 0 ∧ (lexR l).fe = 0) := by
  cases h : lexR l with
  | ok ts => rfl
  | err p e => have := lexR_ne h; simp [Rs.good, Rs.fa, Rs.fe, this]
def ReadRes (w : World) (x : Rs) (e : Ending) (w' : World) : Prop :=
  ∃ A c, e = .returned (.tuple #[.slice A x.toks.length c, .bool x.good]) ∧ Own w' w.heap.size (.slice A x.toks.length c) x.toks ∧ Below w.heap.size w w'
theorem below_drewN {n k : Nat} {w w' : World} (h : Below n w w') (hn : n ≤ w'.heap.size) : Below n w (w'.drewN k) := h.trans (Below.mono (Gr.below ⟨k, #[], by rw [Go.Sort.grow_empty]⟩) hn)

end Go.Proofs.YtbapgdhcbfpdoaaGreatDoor
/- Contract of the document's answers for layer 3: Same, where it answers true. -/
namespace Go.Proofs.YtbapgdhcbfpdoaaGreatDoor
open Go.RowKit

/-- A token, moved by so much from a place on. -/
def sh (f b : Int) (t : Tk) : Tk := { t with a := if f ≤ t.a then t.a + b else t.a }
theorem nth_map {l : List Tk} (g : Tk → Tk) {k : Nat} (h : k < l.length) : nth (l.map g) k = g (nth l k) := by
  unfold nth; rw [List.getD_eq_getElem?_getD, List.getD_eq_getElem?_getD, List.getElem?_map, List.getElem?_eq_getElem h]; rfl
theorem nth_mem {l : List Tk} {k : Nat} (h : k < l.length) : nth l k ∈ l := by rw [nth_get h]; exact List.getElem_mem h
theorem idxT (b o len c : Nat) (i : Int) (h0 : 0 ≤ i) (h1 : i < len) (w : World) : (Instr.indexAt 52 (.slice (some ⟨b, o, none⟩) len c) (.int .i64 i)).run Tryz.prog w = .ok (.pointer (some ⟨b, o + i.toNat * 4, none⟩)) w := by
  have e := WideShapes.add_plain b o (i.toNat * 4)
  go_simp
theorem Cells4.drewN {w : World} {b o : Nat} {t : Tk} (h : Cells4 w b o t) (n : Nat) : Cells4 (w.drewN n) b o t := h
end Go.Proofs.YtbapgdhcbfpdoaaGreatDoor
/- Contracts: the document's digits. -/
namespace Go.Proofs.YtbapgdhcbfpdoaaGreatDoor
open Go.RowKit

/-- A number's text. -/
def digs (n : Int) : List UInt8 := if n < 0 then 95 :: Lib.decDigits n.natAbs else Lib.decDigits n.natAbs
theorem dec_step {u : Nat} (h : 9 < u) : Lib.decDigits u = Lib.decDigits (u / 10) ++ [UInt8.ofNat (48 + u % 10)] := by
  rw [Lib.decDigits, dif_neg (by omega)]
theorem dec_last {u : Nat} (h : ¬ 9 < u) : Lib.decDigits u = [UInt8.ofNat (48 + u)] := by
  rw [Lib.decDigits, dif_pos (by omega)]
theorem dec_len {u : Nat} (h : u ≤ 9223372036854775808) : (Lib.decDigits u).length ≤ 20 := by
  rw [Lib.decDigits_length]; exact Lib.nDigits_le20 u (by omega)
theorem conv1 (w : World) (x : Int) : (convert 63 9 (.slice (some ⟨w.heap.size, 0, none⟩) 1 1)).run Tryz.prog (w.alloc (.cells #[.int .u8 x] 5)) = .ok (.string (bs [UInt8.ofNat x.toNat])) (w.alloc (.cells #[.int .u8 x] 5)) := by
  have hl : (loadCells ⟨w.heap.size, 0, none⟩ 1).run Tryz.prog (w.alloc (.cells #[.int .u8 x] 5)) = .ok ([x].map (Value.int .u8)).toArray (w.alloc (.cells #[.int .u8 x] 5)) :=
    run_loadCells_list (P := Tryz.prog) _ ⟨w.heap.size, 0, none⟩ ([x].map (Value.int .u8)) (fun j v hj => by
      cases j with
      | zero =>
        simp at hj
        subst hj
        rw [WideShapes.add_plain]
        go_simp
      | succ j => simp at hj)
  rw [run_convert_bytes_string _ _ _ _ _ _ _ Tryz.underlying63 Tryz.underlying5 Tryz.underlying9, run_bytesToString _ _ _ _ _ hl]
  rfl
theorem bs_cons (c : UInt8) (l : List UInt8) : bs [c] ++ bs l = bs (c :: l) := bs_eq (by rw [app_list, bs_list, bs_list]; rfl)
theorem num_eq {k : IntKind} {a b : Int} (h : a = b) : Value.int k a = Value.int k b := by rw [h]
theorem str_eq {a b : ByteArray} (h : a = b) : Value.string a = Value.string b := by rw [h]
set_option maxHeartbeats 1000000 in
theorem digits_any (n : Int) (w : World) (h0 : -9223372036854775808 ≤ n) (h1 : n ≤ 9223372036854775807) : Calls Tryz.prog 66 #[.int .i64 n] w fun e w' => e = .returned (.string (bs (digs n))) ∧ Below w.heap.size w w' := by
  obtain ⟨m, hm⟩ : ∃ m : Nat, n.natAbs = m := ⟨_, rfl⟩
  have hmb : m ≤ 9223372036854775808 := by omega
  have hdl := Lib.hid (dec_len hmb)
  have hcv := conv1
  by_cases hneg : n < 0
  · have hx := Lib.hid (show digs n = 95 :: Lib.decDigits m by unfold digs; rw [if_pos hneg, hm])
    have hng : decide (n < 0) = true := decide_eq_true hneg
    have hst := Lib.hid (show IntKind.u64.wrap (-(IntKind.u64.wrap n)) = (m : Int) by
      simp [IntKind.wrap, IntKind.bits, IntKind.signed]; omega)
    have HM := Lib.hid hm
    clear hm
    go_enter Tryz.func66, Tryz.ntmps66
    go_wp2
    go_loopw [3, 4] (fun s3 s4 wr => ∃ (u : Nat) (l : List UInt8), u ≤ m ∧ s3 = .int .u64 u ∧ s4 = .string (bs l) ∧ Hid (Lib.decDigits m = Lib.decDigits u ++ l) ∧ Hid (Below w.heap.size w wr)) (fun s3 _ _ => (intOf s3).toNat)
    case atStart => exact ⟨m, [], Nat.le_refl _, num_eq hst.out, rfl, by show _ = _; simp, Below.refl _ _⟩
    case round =>
      obtain ⟨u, l, hu, rfl, rfl, HD, HB⟩ := hrel
      have hbr := HB.out.size
      have hll : l.length ≤ 100 := by
        have h3 := congrArg List.length HD.out
        rw [List.length_append] at h3
        have h4 := hdl.out
        omega
      have hzz := bs_size
      have hcat := fun c => bs_cons c l
      have h95 : ∀ x, (⟨#[95]⟩ : ByteArray) ++ bs x = bs (95 :: x) := fun x => bs_cons 95 x
      by_cases h9 : 9 < u
      · have HD2 := Lib.hid (show Lib.decDigits m = Lib.decDigits (u / 10) ++ (UInt8.ofNat (48 + (u % 10 : Nat)) :: l) by rw [HD.out, dec_step h9]; simp)
        go_wp2
        go_roundw
        case rel => exact ⟨u / 10, _, by omega, by go_num, str_eq (congrArg (fun c => bs (c :: l)) (by congr 1; rw [UInt8.ofNat_add]; rfl)), HD2.out, HB.out.alloc hbr _⟩
        case measure => simp [intOf]; omega
      · have HD2 := Lib.hid (show Lib.decDigits m = UInt8.ofNat (48 + u) :: l by rw [HD.out, dec_last h9]; rfl)
        go_wp2
        go_ret
        exact ⟨by rw [hx.out, HD2.out]; exact ret_str (congrArg bs (by congr 2; rw [UInt8.ofNat_add]; rfl)), HB.out.alloc hbr _⟩
  · have hx := Lib.hid (show digs n = Lib.decDigits m by unfold digs; rw [if_neg hneg, hm])
    have hng : decide (n < 0) = false := decide_eq_false hneg
    have hst := Lib.hid (show n = (m : Int) by
      omega)
    have HM := Lib.hid hm
    clear hm
    go_enter Tryz.func66, Tryz.ntmps66
    go_wp2
    go_loopw [3, 4] (fun s3 s4 wr => ∃ (u : Nat) (l : List UInt8), u ≤ m ∧ s3 = .int .u64 u ∧ s4 = .string (bs l) ∧ Hid (Lib.decDigits m = Lib.decDigits u ++ l) ∧ Hid (Below w.heap.size w wr)) (fun s3 _ _ => (intOf s3).toNat)
    case atStart => exact ⟨m, [], Nat.le_refl _, num_eq hst.out, rfl, by show _ = _; simp, Below.refl _ _⟩
    case round =>
      obtain ⟨u, l, hu, rfl, rfl, HD, HB⟩ := hrel
      have hbr := HB.out.size
      have hll : l.length ≤ 100 := by
        have h3 := congrArg List.length HD.out
        rw [List.length_append] at h3
        have h4 := hdl.out
        omega
      have hzz := bs_size
      have hcat := fun c => bs_cons c l
      have h95 : ∀ x, (⟨#[95]⟩ : ByteArray) ++ bs x = bs (95 :: x) := fun x => bs_cons 95 x
      by_cases h9 : 9 < u
      · have HD2 := Lib.hid (show Lib.decDigits m = Lib.decDigits (u / 10) ++ (UInt8.ofNat (48 + (u % 10 : Nat)) :: l) by rw [HD.out, dec_step h9]; simp)
        go_wp2
        go_roundw
        case rel => exact ⟨u / 10, _, by omega, by go_num, str_eq (congrArg (fun c => bs (c :: l)) (by congr 1; rw [UInt8.ofNat_add]; rfl)), HD2.out, HB.out.alloc hbr _⟩
        case measure => simp [intOf]; omega
      · have HD2 := Lib.hid (show Lib.decDigits m = UInt8.ofNat (48 + u) :: l by rw [HD.out, dec_last h9]; rfl)
        go_wp2
        go_ret
        exact ⟨by rw [hx.out, HD2.out]; exact ret_str (congrArg bs (by congr 1; rw [UInt8.ofNat_add]; rfl)), HB.out.alloc hbr _⟩
end Go.Proofs.YtbapgdhcbfpdoaaGreatDoor
/- A token's one text, and when it is one: over plain lists. -/
namespace Go.Proofs.YtbapgdhcbfpdoaaGreatDoor
open Go.RowKit

def txt (t : Tk) : List UInt8 := if t.k = 2 then digs t.n else if t.k = 4 then [10] else t.w
/-- The token has a text. -/
def Sp (t : Tk) : Prop := ∃ b r, txt t = b :: r ∧ r.length < 100 ∧ blB b = false ∧ b.toNat ≠ 35 ∧ piece b r = .tok t.k t.w t.n r.length

theorem lex_places : ∀ (n : Nat) (l : List UInt8) (a : Int), l.length ≤ n → ∀ ts, lexL l a = .ok ts → (∀ t ∈ ts, a ≤ t.a ∧ t.a < a + l.length) ∧ ts.Pairwise (fun x y => x.a < y.a) := by
  intro n
  induction n with
  | zero =>
    intro l a hl ts h
    obtain rfl : l = [] := List.length_eq_zero_iff.1 (by omega)
    rw [lex_nil] at h; injection h with h; subst h
    exact ⟨fun t ht => by simp at ht, List.Pairwise.nil⟩
  | succ n ih =>
    intro l a hl ts h
    cases l with
    | nil => rw [lex_nil] at h; injection h with h; subst h; exact ⟨fun t ht => by simp at ht, List.Pairwise.nil⟩
    | cons b r =>
      simp at hl
      cases hp : piece b r with
      | skip k =>
        rw [lex_skip hp] at h
        have hk := skip_le hp
        have h1 := ih _ _ (by rw [List.length_drop]; omega) _ h
        refine ⟨fun t ht => ?_, h1.2⟩
        have := h1.1 t ht
        rw [List.length_drop] at this
        simp; omega
      | tok kd w v k =>
        rw [lex_tok hp] at h
        have hk := piece_le hp
        obtain ⟨vs, hv, rfl⟩ := pre_ok h
        have h1 := ih _ _ (by rw [List.length_drop]; omega) _ hv
        refine ⟨fun t ht => ?_, ?_⟩
        · simp only [List.cons_append, List.nil_append, List.mem_cons] at ht
          rcases ht with rfl | ht
          · simp; omega
          · have := h1.1 t ht
            rw [List.length_drop] at this
            simp; omega
        · refine List.pairwise_cons.2 ⟨fun t ht => ?_, h1.2⟩
          have := h1.1 t ht
          simp; omega
      | bad e => rw [lex_bad hp] at h; cases h
theorem piece_head {b : UInt8} {r : List UInt8} {kd v : Int} {w : List UInt8} {k : Nat} (h : piece b r = .tok kd w v k) : blB b = false ∧ b.toNat ≠ 35 := by
  unfold piece at h
  split at h
  · cases h
  rename_i h1
  split at h
  · cases h
  rename_i h2
  exact ⟨by simpa using h1, h2⟩
/-- What a token's piece is, by its kind. -/
theorem piece_kind {b : UInt8} {r : List UInt8} {kd v : Int} {w : List UInt8} {k : Nat} (h : piece b r = .tok kd w v k) :
    (kd = 4 ∧ w = [] ∧ k = 0 ∧ v = 0) ∨ (kd = 2 ∧ w = [] ∧ k = run digB r ∧ -9223372036854775808 ≤ v ∧ v ≤ 9223372036854775807) ∨ ((kd = 1 ∨ kd = 3) ∧ w = b :: r.take k ∧ k ≤ 15 ∧ v = 0) := by
  have hnum : ∀ {o : Option Int} {j : Nat}, (∀ x, o = some x → -9223372036854775808 ≤ x ∧ x ≤ 9223372036854775807) → numP o j = .tok kd w v k → kd = 2 ∧ w = [] ∧ k = j ∧ -9223372036854775808 ≤ v ∧ v ≤ 9223372036854775807 := by
    intro o j ho hp
    cases o with
    | none => cases hp
    | some x => injection hp with h1 h2 h3 h4; subst h3; exact ⟨h1.symm, h2.symm, h4.symm, ho x rfl⟩
  have hbd : ∀ (neg : Bool) (ds : List UInt8) (x : Int), numR neg ds = some x → -9223372036854775808 ≤ x ∧ x ≤ 9223372036854775807 := by
    intro neg ds x hx
    unfold numR at hx
    cases neg
    · rw [if_neg Bool.false_ne_true] at hx
      split at hx
      · injection hx with hx; omega
      · cases hx
    · rw [if_pos rfl] at hx
      split at hx
      · injection hx with hx; omega
      · cases hx
  unfold piece at h
  split at h
  · cases h
  split at h
  · cases h
  split at h
  · injection h with h1 h2 h3 h4; exact .inl ⟨h1.symm, h2.symm, h4.symm, h3.symm⟩
  split at h
  · split at h
    · cases h
    · rename_i hn
      injection h with h1 h2 h3 h4
      subst h4
      exact .inr (.inr ⟨.inl h1.symm, h2.symm, by omega, h3.symm⟩)
  split at h
  · exact .inr (.inl (hnum (hbd _ _) h))
  split at h
  · exact .inr (.inl (hnum (hbd _ _) h))
  split at h
  · rename_i h7
    injection h with h1 h2 h3 h4
    subst h4
    refine .inr (.inr ⟨.inr h1.symm, ?_, by omega, h3.symm⟩)
    cases r with
    | nil => simp at h7
    | cons c r => simp at h7; rw [← h2, h7.2]; rfl
  split at h
  · injection h with h1 h2 h3 h4
    subst h4
    exact .inr (.inr ⟨.inr h1.symm, by rw [← h2]; rfl, by omega, h3.symm⟩)
  · cases h
theorem dec_dig (u : Nat) : ∀ c ∈ Lib.decDigits u, digB c = true := by
  induction u using Nat.strongRecOn with
  | _ u ih =>
    by_cases h : 9 < u
    · rw [dec_step h]
      intro c hc
      rcases List.mem_append.1 hc with hc | hc
      · exact ih (u / 10) (by omega) c hc
      · simp only [List.mem_singleton] at hc
        subst hc
        rw [digB_iff, UInt8.toNat_ofNat_of_lt' (by show _ < 256; omega)]
        omega
    · rw [dec_last h]
      intro c hc
      simp only [List.mem_singleton] at hc
      subst hc
      rw [digB_iff, UInt8.toNat_ofNat_of_lt' (by show _ < 256; omega)]
      omega
theorem dec_ne (u : Nat) : Lib.decDigits u ≠ [] := by
  by_cases h : 9 < u
  · rw [dec_step h]; simp
  · rw [dec_last h]; simp
theorem digs_len {n : Int} (h0 : -9223372036854775808 ≤ n) (h1 : n ≤ 9223372036854775807) : (digs n).length ≤ 21 := by
  unfold digs
  have := dec_len (u := n.natAbs) (by omega)
  split
  · simp; omega
  · omega
/-- Behind a number's first byte stand digits. -/
theorem digs_tail {n : Int} {b : UInt8} {r : List UInt8} (h : digs n = b :: r) : ∀ c ∈ r, digB c = true := by
  unfold digs at h
  split at h
  · injection h with h1 h2; subst h2; exact dec_dig _
  · intro c hc; exact dec_dig _ c (by rw [h]; simp [hc])
theorem digs_head {n : Int} {b : UInt8} {r : List UInt8} (h : digs n = b :: r) : blB b = false ∧ b.toNat ≠ 35 := by
  have : b.toNat = 95 ∨ digB b = true := by
    unfold digs at h
    split at h
    · injection h with h1 h2; subst h1; exact .inl rfl
    · exact .inr (dec_dig _ b (by rw [h]; simp))
  rcases this with h | h
  · exact ⟨by unfold blB; simp [h], by omega⟩
  · have := (digB_iff b).1 h
    exact ⟨by unfold blB; simp; omega, by omega⟩
theorem digs_cons {n : Int} : ∃ b r, digs n = b :: r := by
  unfold digs
  split
  · exact ⟨_, _, rfl⟩
  · cases h : Lib.decDigits n.natAbs with
    | nil => exact (dec_ne _ h).elim
    | cons b r => exact ⟨b, r, rfl⟩
/-- Reading a token's text alone tells whether it is one. -/
theorem sp_iff (t : Tk) (h0 : -9223372036854775808 ≤ t.n) (h1 : t.n ≤ 9223372036854775807) : lexR (txt t) = .ok [{ t with a := 0 }] ↔ Sp t := by
  constructor
  · intro h
    unfold lexR at h
    split at h
    · cases h
    obtain ⟨b, r, hl⟩ : ∃ b r, txt t = b :: r := by
      cases hl : txt t with
      | nil => rw [hl, lex_nil] at h; injection h with h; cases h
      | cons b r => exact ⟨b, r, rfl⟩
    rw [hl] at h
    cases hp : piece b r with
    | skip k =>
      rw [lex_skip hp] at h
      have := (lex_places _ _ _ (Nat.le_refl _) _ h).1 { t with a := 0 } (by simp)
      simp at this
      omega
    | bad e => rw [lex_bad hp] at h; cases h
    | tok kd w v k =>
      rw [lex_tok hp] at h
      obtain ⟨vs, hv, he⟩ := pre_ok h
      simp only [List.cons_append, List.nil_append, List.cons.injEq] at he
      obtain ⟨he, rfl⟩ := he
      rw [tk_eq] at he
      obtain ⟨e1, _, e3, e4⟩ := he
      simp only at e1 e3 e4
      subst e1 e3 e4
      have hkl := piece_le hp
      have hr : k = r.length ∧ r.length < 100 := by
        rcases piece_kind hp with ⟨hk, hw, hk0, _⟩ | ⟨hk, hw, hkr, _⟩ | ⟨hk, hw, h15, _⟩
        · unfold txt at hl
          rw [if_neg (by omega), if_pos hk] at hl
          injection hl with _ hr
          subst hr; simp; omega
        · unfold txt at hl
          rw [if_pos hk] at hl
          rw [run_full _ _ (digs_tail hl)] at hkr
          have := digs_len h0 h1
          rw [hl] at this
          simp at this
          omega
        · unfold txt at hl
          rw [if_neg (by omega), if_neg (by omega)] at hl
          rw [hl] at hw
          injection hw with _ hw
          have := congrArg List.length hw
          rw [List.length_take] at this
          omega
      obtain ⟨h2, h3⟩ := piece_head hp
      exact ⟨b, r, hl, hr.2, h2, h3, by rw [hp, hr.1]⟩
  · rintro ⟨b, r, hl, hr, h2, h3, hp⟩
    unfold lexR
    rw [hl, if_neg (by simp; omega), lex_tok hp, List.drop_length, lex_nil]
    rfl
/-- What the document's Spell answers says so, too. -/
theorem sp_next {t : Tk} {b : UInt8} {r : List UInt8} (hl : txt t = b :: r) (hr : r.length < 100) (h0 : blB b = false ∧ b.toNat ≠ 35) {x : Tk} {n e : Int} (hx : nextR 0 b r = (x, n, e)) :
    Sp t ↔ e = 0 ∧ n = ((r.length + 1 : Nat) : Int) ∧ x.k = t.k ∧ x.w = t.w ∧ x.n = t.n := by
  constructor
  · rintro ⟨b', r', hl', _, _, _, hp⟩
    rw [hl] at hl'
    injection hl' with e1 e2
    subst e1 e2
    rw [next_tok hp] at hx
    injection hx with e1 e2
    injection e2 with e2 e3
    subst e1 e2 e3
    exact ⟨rfl, by omega, rfl, rfl, rfl⟩
  · rintro ⟨rfl, hn, h1, h2, h3⟩
    have hs := next_sel h0 hx
    refine ⟨b, r, hl, hr, h0.1, h0.2, ?_⟩
    unfold nextR at hx
    split at hx
    · rename_i kd w v k hp
      injection hx with e1 e2
      injection e2 with e2 e3
      subst e1 e2
      simp only at h1 h2 h3
      rw [hp, h1, h2, h3, show k = r.length from by omega]
    · rename_i e' hp
      injection hx with e1 e2
      injection e2 with e2 e3
      exact (bad_ne hp e3).elim
    · injection hx with e1 e2
      injection e2 with e2 e3
      omega
end Go.Proofs.YtbapgdhcbfpdoaaGreatDoor
/- Contracts of package lex: spelling, Spell. -/
namespace Go.Proofs.YtbapgdhcbfpdoaaGreatDoor
open Go.RowKit

/-- A token that fits its type. -/
def TkOk (t : Tk) : Prop := (-9223372036854775808 ≤ t.n ∧ t.n ≤ 9223372036854775807) ∧ t.w.length ≤ 140737488355320
theorem txt_len {t : Tk} (h : TkOk t) : (txt t).length ≤ 140737488355320 := by
  unfold txt
  split
  · have := digs_len h.1.1 h.1.2; omega
  · split
    · simp
    · exact h.2
theorem dash_no {u : Nat} : (Lib.decDigits u).head? ≠ some 45 := by
  intro h
  cases hd : Lib.decDigits u with
  | nil => exact dec_ne u hd
  | cons c r =>
    rw [hd] at h
    simp at h
    subst h
    have := dec_dig u 45 (by rw [hd]; simp)
    revert this; decide
set_option maxHeartbeats 1000000 in
theorem spelling_any (t : Tk) (w : World) (hL : Laid w) (hok : TkOk t) : Calls Tryz.prog 78 #[.agg #[.int .i64 t.k, .int .i64 t.a, .string (bs t.w), .int .i64 t.n]] w fun e w' => e = .returned (.string (bs (txt t))) ∧ Below w.heap.size w w' := by
  have h0 := hok.1.1
  have h1 := hok.1.2
  by_cases k2 : t.k = 2
  · have hx := Lib.hid (show txt t = digs t.n by unfold txt; rw [if_pos k2])
    have hk : (t.k == 2) = true := by simp [k2]
    clear k2
    by_cases hneg : t.n < 0
    · obtain ⟨m, hm⟩ : ∃ m : Nat, t.n = -(m : Int) := ⟨t.n.natAbs, by omega⟩
      have hx2 := Lib.hid (show digs t.n = 95 :: Lib.decDigits m by unfold digs; rw [if_pos hneg]; congr 2; omega)
      have hit := Lib.hid (show Lib.itoa t.n = 45 :: Lib.decDigits m by unfold Lib.itoa; rw [if_pos hneg]; congr 2; omega)
      have hdl : (bs (Lib.decDigits m)).size ≤ 20 := by rw [bs_size]; exact dec_len (by omega)
      have h95 : ∀ x, (⟨#[95]⟩ : ByteArray) ++ bs x = bs (95 :: x) := fun x => bs_eq (by rw [app_list, bs_list]; rfl)
      have hcut := fun W => cut_yes (⟨(Lib.itoa t.n).toArray⟩ : ByteArray) 45 (Lib.decDigits m) W (by rw [← hit.out])
      have HM := Lib.hid hm
      clear hm hneg
      go_enter Tryz.func78, Tryz.ntmps78
      go_wp2_with (first | (go_at_call 98; refine (Tryz.formatInt t.n h0 h1 _ (hL.below ((Below.refl _ _).alloc (Nat.le_refl _) _)).1).mono ?_; rintro e W ⟨rfl, k, os, hW⟩; have hg := Gr.below ⟨k, os, hW⟩; clear hW) | (go_at_call 51; refine (hcut _).mono ?_; rintro e w' ⟨rfl, rfl⟩))
      go_ret
      exact ⟨ret_str (by rw [hx.out, hx2.out]), ((Below.refl _ _).alloc (Nat.le_refl _) _).trans (hg.mono (by simp))⟩
    · have hx2 := Lib.hid (show digs t.n = Lib.decDigits t.n.natAbs by unfold digs; rw [if_neg hneg])
      have hit := Lib.hid (show Lib.itoa t.n = Lib.decDigits t.n.natAbs by unfold Lib.itoa; rw [if_neg hneg]; congr 1; omega)
      have hcut := fun W => cut_no (⟨(Lib.itoa t.n).toArray⟩ : ByteArray) 45 W (by rw [hit.out]; exact dash_no)
      clear hneg
      go_enter Tryz.func78, Tryz.ntmps78
      go_wp2_with (first | (go_at_call 98; refine (Tryz.formatInt t.n h0 h1 _ (hL.below ((Below.refl _ _).alloc (Nat.le_refl _) _)).1).mono ?_; rintro e W ⟨rfl, k, os, hW⟩; have hg := Gr.below ⟨k, os, hW⟩; clear hW) | (go_at_call 51; refine (hcut _).mono ?_; rintro e w' ⟨rfl, rfl⟩))
      go_ret
      exact ⟨by rw [hx.out, hx2.out, ← hit.out]; rfl, ((Below.refl _ _).alloc (Nat.le_refl _) _).trans (hg.mono (by simp))⟩
  · by_cases k4 : t.k = 4
    · have hx := Lib.hid (show txt t = [10] by unfold txt; rw [if_neg k2, if_pos k4])
      have hk : (t.k == 2) = false := by simp [k2]
      have hk4 : (t.k == 4) = true := by simp [k4]
      clear k2 k4
      go_enter Tryz.func78, Tryz.ntmps78
      go_wp2
      go_ret
      exact ⟨by rw [hx.out]; rfl, (Below.refl _ _).alloc (Nat.le_refl _) _⟩
    · have hx := Lib.hid (show txt t = t.w by unfold txt; rw [if_neg k2, if_neg k4])
      have hk : (t.k == 2) = false := by simp [k2]
      have hk4 : (t.k == 4) = false := by simp [k4]
      clear k2 k4
      go_enter Tryz.func78, Tryz.ntmps78
      go_wp2
      go_ret
      exact ⟨ret_str (by rw [hx.out]), (Below.refl _ _).alloc (Nat.le_refl _) _⟩
open Classical in
/-- What Spell answers. -/
noncomputable def spR (t : Tk) : List UInt8 × Bool := if Sp t then (txt t, true) else ([], false)
theorem sp_yes {t : Tk} (h : Sp t) : spR t = (txt t, true) := by unfold spR; rw [if_pos h]
theorem sp_no {t : Tk} (h : ¬ Sp t) : spR t = ([], false) := by unfold spR; rw [if_neg h]
def SpRes (w : World) (t : Tk) (e : Ending) (w' : World) : Prop := e = .returned (.tuple #[.string (bs (spR t).1), .bool (spR t).2]) ∧ Below w.heap.size w w'
theorem spres_no {w w' : World} {t : Tk} (h : ¬ Sp t) (hb : Below w.heap.size w w') : SpRes w t (.returned (.tuple #[.string ⟨#[]⟩, .bool false])) w' := ⟨by rw [sp_no h]; rfl, hb⟩
theorem spres_yes {w w' : World} {t : Tk} (h : Sp t) (hb : Below w.heap.size w w') : SpRes w t (.returned (.tuple #[.string (bs (txt t)), .bool true])) w' := ⟨by rw [sp_yes h], hb⟩

/-- A token in a block of its own, none of it frozen. -/
def Box (w : World) (b : Nat) (t : Tk) : Prop := Cells4 w b 0 t ∧ (∀ o, o < 4 → w.frozen? ⟨b, o, none⟩ = false) ∧ b < w.heap.size
theorem Box.new (w : World) (t : Tk) : Box (w.alloc (.cells #[.int .i64 t.k, .int .i64 t.a, .string (bs t.w), .int .i64 t.n] 56)) w.heap.size t := by
  refine ⟨Cells4.box w t, fun o ho => ?_, by simp⟩
  match o, ho with
  | 0, _ => go_simp
  | 1, _ => go_simp
  | 2, _ => go_simp
  | 3, _ => go_simp
theorem Box.below {w w' : World} {b : Nat} {t : Tk} (h : Box w b t) (hb : Below w.heap.size w w') : Box w' b t :=
  ⟨h.1.below hb h.2.2, fun o ho => by rw [hb.frozen (p := ⟨b, o, none⟩) h.2.2]; exact h.2.1 o ho, Nat.lt_of_lt_of_le h.2.2 hb.size⟩
theorem Box.zero {w : World} {b : Nat} {t : Tk} (h : Box w b t) : Cells4 (w.setCell ⟨b, 1, none⟩ (.int .i64 0)) b 0 { t with a := 0 } := by
  obtain ⟨⟨h0, h1, h2, h3⟩, _, _⟩ := h
  have e : ∀ o, o ≠ 1 → (w.setCell ⟨b, 1, none⟩ (.int .i64 0)).cell? ⟨b, o, none⟩ = w.cell? ⟨b, o, none⟩ := fun o ho => World.cell?_setCell_other w ⟨b, 1, none⟩ ⟨b, o, none⟩ _ (fun e => ho (by injection e with _ e; exact e.symm))
  refine ⟨?_, ?_, ?_, ?_⟩
  · rw [e _ (by omega)]; exact h0
  · exact World.cell?_setCell_same' _ _ _ (by rw [h1]; rfl)
  · rw [e _ (by omega)]; exact h2
  · rw [e _ (by omega)]; exact h3
end Go.Proofs.YtbapgdhcbfpdoaaGreatDoor
/- Contract of package lex: Spell. -/
namespace Go.Proofs.YtbapgdhcbfpdoaaGreatDoor
open Go.RowKit

set_option maxHeartbeats 2000000 in
theorem spell_any (t : Tk) (w : World) (hL : Laid w) (hok : TkOk t) : Calls Tryz.prog 57 #[.agg #[.int .i64 t.k, .int .i64 t.a, .string (bs t.w), .int .i64 t.n]] w (SpRes w t) := by
  have htl := txt_len hok
  have hgd := Lib.hid (@good_of (txt t))
  have hsp := Lib.hid (sp_iff t hok.1.1 hok.1.2)
  obtain ⟨x, hx⟩ : ∃ x, x = lexR (txt t) := ⟨_, rfl⟩
  have hcon : Hid (∀ w, Laid w → Calls Tryz.prog 17 #[.string (bs (txt t))] w (TokRes w x)) := by
    have h := fun w hL => lex_any (bs (txt t)) w hL (by rw [bs_size]; omega)
    rw [bs_list, ← hx] at h
    exact h
  rw [← hx] at hgd hsp
  clear hx
  have hbz : (bs (txt t)).size ≤ 140737488355328 := by rw [bs_size]; omega
  have hq := fun W => neqF x.fa x.fe 0 0 W
  rw [← hgd.out] at hq
  obtain ⟨W1, hW1⟩ : ∃ W1, W1 = w.alloc (.cells #[.int .i64 t.k, .int .i64 t.a, .string (bs t.w), .int .i64 t.n] 56) := ⟨_, rfl⟩
  have HB1 := Lib.hid (show Below w.heap.size w W1 by rw [hW1]; exact (Below.refl _ _).alloc (Nat.le_refl _) _)
  have HX1 := Lib.hid (show Box W1 w.heap.size t by rw [hW1]; exact Box.new w t)
  obtain ⟨c0, c1, c2, c3⟩ := HX1.out.1
  go_enter Tryz.func57, Tryz.ntmps57
  go_wp2_with fail
  refine (spelling_any t _ ?_ hok).mono ?_
  · rw [← hW1]; exact hL.below HB1.out
  rintro e W2 ⟨rfl, hb2⟩
  rw [← hW1] at hb2
  have HX2 := Lib.hid (HX1.out.below hb2)
  have HB2 := Lib.hid (HB1.out.trans (hb2.mono HB1.out.size))
  clear hb2 c0 c1 c2 c3 hW1
  go_wp2_with fail
  refine (clone_any _ _ hbz).mono ?_
  rintro e W3 ⟨rfl, hb3⟩
  have HX3 := Lib.hid (HX2.out.below hb3)
  have HB3 := Lib.hid (HB2.out.trans (hb3.mono HB2.out.size))
  clear hb3
  obtain ⟨c0, c1, c2, c3⟩ := HX3.out.1
  have f1 := HX3.out.2.1 1 (by omega)
  go_wp2_with fail
  obtain ⟨W4, hW4⟩ : ∃ W4, W4 = W3.setCell ⟨w.heap.size, 1, none⟩ (.int .i64 0) := ⟨_, rfl⟩
  rw [← hW4]
  have HX4 := Lib.hid (show Cells4 W4 w.heap.size 0 { t with a := 0 } by rw [hW4]; exact HX3.out.zero)
  have HB4 := Lib.hid (show Below w.heap.size w W4 by rw [hW4]; exact HB3.out.setCell (p := ⟨w.heap.size, 1, none⟩) (Nat.le_refl _) _)
  have hz4 : w.heap.size < W4.heap.size := by rw [hW4]; simpa using HX3.out.2.2
  clear hW4 c0 c1 c2 c3 f1
  refine (hcon.out _ (hL.below HB4.out)).mono ?_
  rintro e W5 ⟨A, c, rfl, ho, hb5⟩
  have HX5 := Lib.hid (HX4.out.below hb5 hz4)
  have HB5 := Lib.hid (HB4.out.trans (hb5.mono HB4.out.size))
  have hz5 : w.heap.size < W5.heap.size := Nat.lt_of_lt_of_le hz4 hb5.size
  have HO5 := Lib.hid ho
  clear ho hb5
  go_wp2_with fail
  obtain ⟨W6, hW6⟩ : ∃ W6, W6 = W5.alloc (.cells #[.int .i64 x.fa, .int .i64 x.fe] 41) := ⟨_, rfl⟩
  rw [← hW6]
  have HX6 := Lib.hid (show Cells4 W6 w.heap.size 0 { t with a := 0 } by rw [hW6]; exact HX5.out.below ((Below.refl W5.heap.size W5).alloc (Nat.le_refl _) _) hz5)
  have HB6 := Lib.hid (show Below w.heap.size w W6 by rw [hW6]; exact HB5.out.alloc HB5.out.size _)
  have HR6 := Lib.hid (show Rd W6 W6.heap.size A x.toks by rw [hW6]; exact (HO5.out.rd).below ((Below.refl W5.heap.size W5).alloc (Nat.le_refl _) _))
  have g0 := fun n => (show (W6.drewN n).cell? ⟨W5.heap.size, 0, none⟩ = some (.int .i64 x.fa) from by rw [hW6]; go_simp)
  have g1 := fun n => (show (W6.drewN n).cell? ⟨W5.heap.size, 1, none⟩ = some (.int .i64 x.fe) from by rw [hW6]; go_simp)
  clear hW6
  cases hg : x.good with
  | false =>
    have hno : ¬ Sp t := fun hs => by rw [hsp.out.2 hs] at hg; cases hg
    rw [hg] at hq
    have HN := Lib.hid hno
    clear hno hg
    go_quiet (fail)
    go_wp2
    go_ret2
    exact spres_no HN.out (below_drewN HB6.out HB6.out.size)
  | true =>
    rw [hg] at hq
    by_cases hlen : x.toks.length = 1
    · have hl1 : ((x.toks.length : Int) != 1) = false := by simp [hlen]
      have hl2 : (x.toks.length != 1) = false := by simp [hlen]
      have hl3 : 0 < x.toks.length := by omega
      obtain ⟨b, o, rfl, hb, hc⟩ := HR6.out.at_ 0 hl3
      have C1 := fun n => (hc 0 hl3).drewN n
      rw [Nat.zero_mul, Nat.add_zero] at C1
      have C2 := fun n => HX6.out.drewN n
      have n0 := fun n => (C1 n).1
      have n1 := fun n => (C1 n).2.1
      have n2 := fun n => (C1 n).2.2.1
      have n3 := fun n => (C1 n).2.2.2
      have m0 := fun n => (C2 n).1
      have m1 := fun n => (C2 n).2.1
      have m2 := fun n => (C2 n).2.2.1
      have m3 := fun n => (C2 n).2.2.2
      have q1 := idxT b o x.toks.length c 0 (by omega) (by omega)
      have hne := fun W => neqT (nth x.toks 0) { t with a := 0 } W
      have hone : x.toks = [nth x.toks 0] := by
        cases h : x.toks with
        | nil => rw [h] at hlen; simp at hlen
        | cons y l =>
          cases l with
          | nil => rfl
          | cons z l => rw [h] at hlen; simp at hlen
      have hxo : x = .ok [nth x.toks 0] := by
        cases x with
        | ok ts => exact congrArg Rs.ok hone
        | err a e => cases hg
      have HXO := Lib.hid hxo
      have HL := Lib.hid hlen
      clear hc C1 C2 hone hxo hg hlen hl3
      by_cases he : nth x.toks 0 = { t with a := 0 }
      · have hyes := Lib.hid (show Sp t from hsp.out.1 (by rw [HXO.out, he]))
        simp only [he, decide_true, Bool.not_true] at hne n0 n1 n2 n3
        clear he
        go_quiet (fail)
        go_wp2
        go_ret2
        exact spres_yes hyes.out (below_drewN HB6.out HB6.out.size)
      · have hno := Lib.hid (show ¬ Sp t from fun hs => he (by have := hsp.out.2 hs; rw [HXO.out] at this; injection this with this; injection this))
        simp only [he, decide_false, Bool.not_false] at hne
        clear he
        go_quiet (fail)
        go_wp2
        go_ret2
        exact spres_no hno.out (below_drewN HB6.out HB6.out.size)
    · have hl1 : ((x.toks.length : Int) != 1) = true := by simp; omega
      have hl2 : (x.toks.length != 1) = true := by simp; omega
      have hno : ¬ Sp t := fun hs => by rw [hsp.out.2 hs] at hlen; exact hlen rfl
      have HN := Lib.hid hno
      clear hno hg hlen
      go_quiet (fail)
      go_wp2
      go_ret2
      exact spres_no HN.out (below_drewN HB6.out HB6.out.size)
end Go.Proofs.YtbapgdhcbfpdoaaGreatDoor
