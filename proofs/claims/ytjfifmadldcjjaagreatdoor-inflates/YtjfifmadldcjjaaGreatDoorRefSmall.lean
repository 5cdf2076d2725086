/- The walks of the document's small functions: power, lengthBits, distanceBits, length, distance, binary. -/
import Derived.Test.YtjfifmadldcjjaaGreatDoorRefRow
namespace Go.Proofs.YtjfifmadldcjjaaGreatDoor.RfW
open Go.RowKit Rf
theorem ret_two {k : IntKind} {a b c d : Int} (h : a = b) (g : c = d) : Ending.returned (.tuple #[.int k a, .int k c]) = .returned (.tuple #[.int k b, .int k d]) := by rw [h, g]
set_option maxRecDepth 10000 in
set_option maxHeartbeats 400000 in
theorem power_any (n : Nat) (a : Int) (ha : a = n) (w : World) (hn : n ≤ 16) :
    Calls Tryz.prog 15 #[.int .i64 a] w fun e w' => e = .returned (.int .i64 ((pw n : Nat) : Int)) ∧ w' = w := by
  subst ha
  go_enter Tryz.func15, Tryz.ntmps15
  go_wp2
  go_loop [0, 3] (fun j v => ∃ k m x : Nat, k + m = n ∧ x = pw k ∧ j = .int .i64 m ∧ v = .int .i64 x) (fun j _ => (intOf j).toNat)
  case atStart => exact ⟨0, n, 1, by omega, rfl, rfl, rfl⟩
  case round =>
    obtain ⟨k, m, x, hkm, hx, rfl, rfl⟩ := hrel
    have hxb : x ≤ 65536 := by rw [hx]; exact pw_le k 16 (by omega)
    have hm16 : m ≤ 16 := by omega
    by_cases hm : 0 < m
    · have H : Hid (k + 1 + (m - 1) = n ∧ 2 * x = pw (k + 1)) := (⟨by omega, by rw [hx, pw_succ]⟩ : _ ∧ _)
      clear hkm hx
      go_wp2
      go_round
      case rel => exact ⟨k + 1, m - 1, 2 * x, H.out.1, H.out.2, by go_num, by go_num⟩
      case measure => simp [intOf]; omega
    · obtain rfl : m = 0 := by omega
      have H : Hid (x = pw n) := (by rw [← hkm]; exact hx : _ = _)
      clear hkm hx
      go_wp2
      go_ret
      exact ⟨ret_int (by rw [← H.out]), rfl⟩
set_option maxRecDepth 10000 in
set_option maxHeartbeats 400000 in
theorem lenBits_any (s : Nat) (a : Int) (ha : a = s) (w : World) (hs : s ≤ 1000) :
    Calls Tryz.prog 64 #[.int .i64 a] w fun e w' => e = .returned (.int .i64 ((lenBits s : Nat) : Int)) ∧ w' = w := by
  subst ha
  by_cases h : s < 261
  · have H : Hid (lenBits s = 0) := if_pos h
    go_enter Tryz.func64, Tryz.ntmps64
    go_wp2
    go_ret
    exact ⟨ret_int (by rw [H.out]; rfl), rfl⟩
  · have H : Hid (lenBits s = (s - 261) / 4) := if_neg h
    go_enter Tryz.func64, Tryz.ntmps64
    go_wp2
    go_ret
    exact ⟨ret_int (by rw [H.out]; omega), rfl⟩
set_option maxRecDepth 10000 in
set_option maxHeartbeats 400000 in
theorem distBits_any (s : Nat) (a : Int) (ha : a = s) (w : World) (hs : s ≤ 1000) :
    Calls Tryz.prog 65 #[.int .i64 a] w fun e w' => e = .returned (.int .i64 ((distBits s : Nat) : Int)) ∧ w' = w := by
  subst ha
  by_cases h : s < 2
  · have H : Hid (distBits s = 0) := if_pos h
    go_enter Tryz.func65, Tryz.ntmps65
    go_wp2
    go_ret
    exact ⟨ret_int (by rw [H.out]; rfl), rfl⟩
  · have H : Hid (distBits s = (s - 2) / 2) := if_neg h
    go_enter Tryz.func65, Tryz.ntmps65
    go_wp2
    go_ret
    exact ⟨ret_int (by rw [H.out]; omega), rfl⟩
set_option maxRecDepth 10000 in
set_option maxHeartbeats 400000 in
theorem length_any (s : Nat) (w : World) (h1 : 257 ≤ s) (h2 : s ≤ 285) :
    Calls Tryz.prog 47 #[.int .i64 s] w fun e w' => e = .returned (.tuple #[.int .i64 (((lenT s).1 : Nat) : Int), .int .i64 (((lenT s).2 : Nat) : Int)]) ∧ w' = w := by
  by_cases he : s = 285
  · subst he
    go_enter Tryz.func47, Tryz.ntmps47
    go_wp2
    go_ret2
    exact ⟨ret_two rfl rfl, rfl⟩
  · have HT : Hid (lenT s = (lenL (s - 257) 257 3, lenBits s)) := if_neg he
    have hne : ((s : Int) == 285) = false := by rw [beq_eq_false_iff_ne]; omega
    go_enter Tryz.func47, Tryz.ntmps47
    go_wp2
    go_loop [4, 5] (fun v i => ∃ j k x : Nat, 257 ≤ k ∧ k + j = s ∧ x ≤ 3 + 64 * (k - 257) ∧ lenL (s - 257) 257 3 = lenL j k x ∧ v = .int .i64 x ∧ i = .int .i64 k) (fun _ i => s - (intOf i).toNat)
    case atStart => exact ⟨s - 257, 257, 3, by omega, by omega, by omega, rfl, rfl, rfl⟩
    case round =>
      obtain ⟨j, k, x, hk1, hkj, hx, hL, rfl, rfl⟩ := hrel
      cases j with
      | zero =>
        obtain rfl : k = s := by omega
        have H : Hid _ := hL
        clear hL hkj
        go_wp2_with fail
        refine (lenBits_any _ _ rfl _ (by omega)).mono ?_
        rintro e w' ⟨rfl, rfl⟩
        go_wp2
        go_ret2
        exact ⟨ret_two (by rw [HT.out, H.out]; rfl) (by rw [HT.out]), rfl⟩
      | succ j =>
        have hlt : k < s := by omega
        have H : Hid (lenL (s - 257) 257 3 = lenL j (k + 1) (x + pw (lenBits k)) ∧ k + 1 + j = s) := (⟨hL, by omega⟩ : _ ∧ _)
        have hb := lenBits_le k (by omega)
        have hp : pw (lenBits k) ≤ 64 := pw_le _ 6 hb
        clear hL hkj
        go_wp2_with fail
        refine (lenBits_any _ _ rfl _ (by omega)).mono ?_
        rintro e w' ⟨rfl, rfl⟩
        go_wp2_with fail
        refine (power_any _ _ rfl _ (by omega)).mono ?_
        rintro e w' ⟨rfl, rfl⟩
        generalize pw (lenBits k) = z at *
        go_wp2
        go_round
        case rel => exact ⟨j, k + 1, x + z, by omega, H.out.2, by omega, H.out.1, by go_num, by go_num⟩
        case measure => simp [intOf]; omega
set_option maxRecDepth 10000 in
set_option maxHeartbeats 400000 in
theorem distance_any (s : Nat) (w : World) (h2 : s ≤ 29) :
    Calls Tryz.prog 48 #[.int .i64 s] w fun e w' => e = .returned (.tuple #[.int .i64 (((distT s).1 : Nat) : Int), .int .i64 (((distT s).2 : Nat) : Int)]) ∧ w' = w := by
  go_enter Tryz.func48, Tryz.ntmps48
  go_wp2
  go_loop [4, 5] (fun v i => ∃ j k x : Nat, k + j = s ∧ x ≤ 1 + 8192 * k ∧ distL s 0 1 = distL j k x ∧ v = .int .i64 x ∧ i = .int .i64 k) (fun _ i => s - (intOf i).toNat)
  case atStart => exact ⟨s, 0, 1, by omega, by omega, rfl, rfl, rfl⟩
  case round =>
    obtain ⟨j, k, x, hkj, hx, hL, rfl, rfl⟩ := hrel
    cases j with
    | zero =>
      obtain rfl : k = s := by omega
      have H : Hid _ := hL
      clear hL hkj
      go_wp2_with fail
      refine (distBits_any _ _ rfl _ (by omega)).mono ?_
      rintro e w' ⟨rfl, rfl⟩
      go_wp2
      go_ret2
      exact ⟨ret_two (by show _ = ((distL k 0 1 : Nat) : Int); rw [H.out]; rfl) rfl, rfl⟩
    | succ j =>
      have hlt : k < s := by omega
      have H : Hid (distL s 0 1 = distL j (k + 1) (x + pw (distBits k)) ∧ k + 1 + j = s) := (⟨hL, by omega⟩ : _ ∧ _)
      have hb := distBits_le k (by omega)
      have hp : pw (distBits k) ≤ 8192 := pw_le _ 13 hb
      clear hL hkj
      go_wp2_with fail
      refine (distBits_any _ _ rfl _ (by omega)).mono ?_
      rintro e w' ⟨rfl, rfl⟩
      go_wp2_with fail
      refine (power_any _ _ rfl _ (by omega)).mono ?_
      rintro e w' ⟨rfl, rfl⟩
      generalize pw (distBits k) = z at *
      go_wp2
      go_round
      case rel => exact ⟨j, k + 1, x + z, H.out.2, by omega, H.out.1, by go_num, by go_num⟩
      case measure => simp [intOf]; omega
theorem cons49 (l : List UInt8) : (ByteArray.mk #[49] ++ ByteArray.mk l.toArray) = ByteArray.mk (49 :: l).toArray := ByteArray.mk_append_mk [49] l
theorem cons48 (l : List UInt8) : (ByteArray.mk #[48] ++ ByteArray.mk l.toArray) = ByteArray.mk (48 :: l).toArray := ByteArray.mk_append_mk [48] l
set_option maxRecDepth 10000 in
set_option maxHeartbeats 400000 in
theorem binary_any (v n : Nat) (w : World) (hv : v ≤ 1073741824) (hn : n ≤ 15) :
    Calls Tryz.prog 63 #[.int .i64 v, .int .i64 n] w fun e w' => e = .returned (.string ⟨(binT v n).toArray⟩) ∧ w' = w := by
  go_enter Tryz.func63, Tryz.ntmps63
  go_wp2
  go_loop [0, 5, 6] (fun x s i => ∃ (j k y : Nat) (acc : List UInt8), k + j = n ∧ acc.length = k ∧ y ≤ 1073741824 ∧ binT v n = binL j y acc ∧ x = .int .i64 y ∧ s = .string ⟨acc.toArray⟩ ∧ i = .int .i64 k) (fun _ _ i => n - (intOf i).toNat)
  case atStart => exact ⟨n, 0, v, [], by omega, rfl, hv, rfl, rfl, rfl, rfl⟩
  case round =>
    obtain ⟨j, k, y, acc, hkj, hal, hy, hL, rfl, rfl, rfl⟩ := hrel
    cases j with
    | zero =>
      obtain rfl : k = n := by omega
      have H : Hid _ := hL
      clear hL hkj
      go_wp2
      go_ret
      exact ⟨by rw [H.out]; rfl, rfl⟩
    | succ j =>
      have hlt : k < n := by omega
      by_cases ho : y % 2 = 1
      · have H : Hid (binT v n = binL j (y / 2) (49 :: acc) ∧ k + 1 + j = n ∧ (49 :: acc).length = k + 1) := (⟨by rw [hL, binL, if_pos ho], by omega, by simp [hal]⟩ : _ ∧ _ ∧ _)
        have ht : ((y : Int) % 2 == 1) = true := by rw [beq_iff_eq]; omega
        have hsz : acc.length ≤ 15 := by omega
        clear hL hkj ho hal
        go_wp2
        go_round
        case rel => exact ⟨j, k + 1, y / 2, 49 :: acc, H.out.2.1, H.out.2.2, by omega, H.out.1, by go_num, by rw [cons49], by go_num⟩
        case measure => simp [intOf]; omega
      · have H : Hid (binT v n = binL j (y / 2) (48 :: acc) ∧ k + 1 + j = n ∧ (48 :: acc).length = k + 1) := (⟨by rw [hL, binL, if_neg ho], by omega, by simp [hal]⟩ : _ ∧ _ ∧ _)
        have ht : ((y : Int) % 2 == 1) = false := by rw [beq_eq_false_iff_ne]; omega
        have hsz : acc.length ≤ 15 := by omega
        clear hL hkj ho hal
        go_wp2
        go_round
        case rel => exact ⟨j, k + 1, y / 2, 48 :: acc, H.out.2.1, H.out.2.2, by omega, H.out.1, by go_num, by rw [cons48], by go_num⟩
        case measure => simp [intOf]; omega
end Go.Proofs.YtjfifmadldcjjaaGreatDoor.RfW
