/- Contracts of the document's answers for layer 3: value, sign. -/
import Derived.Test.YtphcjpomneejmaaDoorLexG
namespace Go.Proofs.YtphcjpomneejmaaDoor
open Go.RowKit

theorem mag_app (acc : Nat) (l r : List UInt8) : mag acc (l ++ r) = mag (mag acc l) r := by unfold mag; rw [List.foldl_append]
theorem mag_take (ds : List UInt8) (k : Nat) : mag 0 (ds.take k) ≤ mag 0 ds := by
  have h := mag_app 0 (ds.take k) (ds.drop k)
  rw [List.take_append_drop] at h
  rw [h]; exact mag_ge _ _
theorem mag_succ (s : ByteArray) (k : Nat) (h : k < s.size) : mag 0 (s.data.toList.take (k + 1)) = mag 0 (s.data.toList.take k) * 10 + (s[k].toNat - 48) := by
  rw [List.take_succ_eq_append_getElem (by simpa using h), mag_app, mag_cons, mag_nil]; rfl
theorem neg_wrap (N : Nat) (h : N ≤ 9223372036854775808) : wrap64 (IntKind.u64.wrap (-(N : Int))) = -(N : Int) := by
  have e : IntKind.u64.wrap (-(N : Int)) = (-(N : Int)) % 18446744073709551616 := by simp [IntKind.wrap, IntKind.bits, IntKind.signed]
  rw [e]
  unfold wrap64
  omega
def ValR (o : Option Int) (e : Ending) : Prop := e = .returned (.tuple #[.int .i64 (o.getD 0), .bool o.isSome])
theorem val_none {o : Option Int} (h : o = none) : ValR o (.returned (.tuple #[.int .i64 0, .bool false])) := by subst h; rfl
theorem val_some {o : Option Int} {v v' : Int} (h : o = some v) (hv : v' = v) : ValR o (.returned (.tuple #[.int .i64 v', .bool true])) := by subst h hv; rfl
set_option maxHeartbeats 1000000 in
set_option maxRecDepth 100000 in
theorem rvalue_pos (s : ByteArray) (w : World) (hs : s.size ≤ 140737488355328) (hd : ∀ c ∈ s.data.toList, digB c = true) : Calls Tryd.prog 38 #[.string s, .bool false] w fun e w' => ValR (numR false s.data.toList) e ∧ w' = w := by
  have HD := Lib.hid hd
  clear hd
  go_enter Tryd.func38, Tryd.ntmps38
  go_wp2
  go_loop [6, 8] (fun n i => ∃ k N : Nat, k ≤ s.size ∧ i = .int .i64 k ∧ n = .int .u64 N ∧ N ≤ 9223372036854775807 ∧ Hid (N = mag 0 (s.data.toList.take k))) (fun _ i => s.size - (intOf i).toNat)
  case atStart => exact ⟨0, 0, by omega, rfl, rfl, by omega, rfl⟩
  case round =>
    obtain ⟨k, N, hk, rfl, rfl, hN, HN⟩ := hrel
    by_cases hlt : k < s.size
    · have HG := Lib.hid (get_s s k hlt)
      have hdk := (digB_iff s[k]).1 (HD.out _ (by rw [← HG.out, List.getD_eq_getElem?_getD, List.getElem?_eq_getElem (by simpa using hlt)]; exact List.getElem_mem _))
      have h48 : (48 : Int) ≤ (s[k].toNat : Int) := by omega
      have h57 : (s[k].toNat : Int) ≤ 57 := by omega
      have HM := Lib.hid (mag_succ s k hlt)
      have hle := Lib.hid (mag_take s.data.toList (k + 1))
      clear hdk
      by_cases hov : (9223372036854775807 - ((s[k].toNat : Int) - 48)) / 10 < (N : Int)
      · have hx := Lib.hid (show numR false s.data.toList = none by
          unfold numR
          have h1 := HM.out
          have h2 := HN.out
          have h3 := hle.out
          rw [← h2] at h1
          rw [if_neg Bool.false_ne_true, if_neg (by omega)])
        go_wp2
        go_ret2
        exact ⟨val_none hx.out, rfl⟩
      · have HN2 := Lib.hid (show N * 10 + (s[k].toNat - 48) = mag 0 (s.data.toList.take (k + 1)) by rw [HM.out, ← HN.out])
        have hb1 : 10 * (N : Int) + ((s[k].toNat : Int) - 48) ≤ 9223372036854775807 := by omega
        go_wp2
        go_round
        case rel => exact ⟨k + 1, N * 10 + (s[k].toNat - 48), by omega, by go_num, by go_num, by omega, HN2.out⟩
        case measure => simp [intOf]; omega
    · obtain rfl : k = s.size := by omega
      have HN2 := Lib.hid (show N = mag 0 s.data.toList by rw [HN.out, List.take_of_length_le (by rw [len_s]; omega)])
      have hx := Lib.hid (show numR false s.data.toList = some (N : Int) by unfold numR; rw [← HN2.out]; rw [if_neg Bool.false_ne_true, if_pos (by omega)])
      go_wp2
      go_ret2
      exact ⟨val_some hx.out rfl, rfl⟩
set_option maxHeartbeats 1000000 in
set_option maxRecDepth 100000 in
theorem rvalue_neg (s : ByteArray) (w : World) (hs : s.size ≤ 140737488355328) (hd : ∀ c ∈ s.data.toList, digB c = true) : Calls Tryd.prog 38 #[.string s, .bool true] w fun e w' => ValR (numR true s.data.toList) e ∧ w' = w := by
  have HD := Lib.hid hd
  clear hd
  go_enter Tryd.func38, Tryd.ntmps38
  go_wp2
  go_loop [6, 8] (fun n i => ∃ k N : Nat, k ≤ s.size ∧ i = .int .i64 k ∧ n = .int .u64 N ∧ N ≤ 9223372036854775808 ∧ Hid (N = mag 0 (s.data.toList.take k))) (fun _ i => s.size - (intOf i).toNat)
  case atStart => exact ⟨0, 0, by omega, rfl, rfl, by omega, rfl⟩
  case round =>
    obtain ⟨k, N, hk, rfl, rfl, hN, HN⟩ := hrel
    by_cases hlt : k < s.size
    · have HG := Lib.hid (get_s s k hlt)
      have hdk := (digB_iff s[k]).1 (HD.out _ (by rw [← HG.out, List.getD_eq_getElem?_getD, List.getElem?_eq_getElem (by simpa using hlt)]; exact List.getElem_mem _))
      have h48 : (48 : Int) ≤ (s[k].toNat : Int) := by omega
      have h57 : (s[k].toNat : Int) ≤ 57 := by omega
      have HM := Lib.hid (mag_succ s k hlt)
      have hle := Lib.hid (mag_take s.data.toList (k + 1))
      clear hdk
      by_cases hov : (9223372036854775808 - ((s[k].toNat : Int) - 48)) / 10 < (N : Int)
      · have hx := Lib.hid (show numR true s.data.toList = none by
          unfold numR
          have h1 := HM.out
          have h2 := HN.out
          have h3 := hle.out
          rw [← h2] at h1
          rw [if_pos rfl, if_neg (by omega)])
        go_wp2
        go_ret2
        exact ⟨val_none hx.out, rfl⟩
      · have HN2 := Lib.hid (show N * 10 + (s[k].toNat - 48) = mag 0 (s.data.toList.take (k + 1)) by rw [HM.out, ← HN.out])
        have hb1 : 10 * (N : Int) + ((s[k].toNat : Int) - 48) ≤ 9223372036854775808 := by omega
        go_wp2
        go_round
        case rel => exact ⟨k + 1, N * 10 + (s[k].toNat - 48), by omega, by go_num, by go_num, by omega, HN2.out⟩
        case measure => simp [intOf]; omega
    · obtain rfl : k = s.size := by omega
      have HN2 := Lib.hid (show N = mag 0 s.data.toList by rw [HN.out, List.take_of_length_le (by rw [len_s]; omega)])
      have hx := Lib.hid (show numR true s.data.toList = some (-(N : Int)) by unfold numR; rw [← HN2.out]; rw [if_pos rfl, if_pos (by omega)])
      go_wp2
      go_ret2
      exact ⟨val_some hx.out (neg_wrap N hN), rfl⟩
end Go.Proofs.YtphcjpomneejmaaDoor
