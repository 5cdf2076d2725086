/- The walks of the CRC sum: what sum.Crc returns where the table holds what four steps leave; what vellumref.Crc, bit and xor return. -/
import Derived.Test.YtephkcdbnogdhaaDoorRows
import Derived.Test.YtephkcdbnogdhaaDoorCrcMath
import Derived.WalkKit
import Derived.Laws.BitsAllLaws
namespace Go.Proofs.YtephkcdbnogdhaaDoor
open Go.RowKit Cr
theorem take_snoc (s : ByteArray) (k : Nat) (h : k < s.size) : s.data.toList.take (k + 1) = s.data.toList.take k ++ [s[k]] := by
  rw [List.take_succ_eq_append_getElem (by simpa using h)]; rfl
theorem take_all (s : ByteArray) (k : Nat) (h : ¬ k < s.size) : s.data.toList.take k = s.data.toList := List.take_of_length_le (by simp; omega)
theorem ret_int {k : IntKind} {a b : Int} (h : a = b) : Ending.returned (.int k a) = .returned (.int k b) := by rw [h]
/-- the table's cells hold what four steps leave of 0 to 15 -/
def Tab (w : World) : Prop := ∀ i : Nat, i < 16 → w.cell? ⟨0, i, none⟩ = some (.int .u32 ((steps 4 i : Nat) : Int))
/-- four bits: the names under which the walk meets them: x / 16, x and 15, the table's cell, their sum -/
theorem nibble (x : Nat) (hx : x < 4294967296) (w : World) (hT : Tab w) : ∃ r t y : Nat, r < 16 ∧ y < 4294967296 ∧ bits BinOp.and IntKind.u32 (x : Int) 15 = (r : Int) ∧ w.cell? ⟨0, r, none⟩ = some (.int .u32 (t : Int)) ∧
    bits BinOp.xor IntKind.u32 ((x : Int) / 16) (t : Int) = (y : Int) ∧ y = steps 4 x := by
  refine ⟨x % 16, steps 4 (x % 16), steps 4 x, Nat.mod_lt _ (by omega), steps_lt 4 x hx, ?_, hT _ (Nat.mod_lt _ (by omega)), ?_, rfl⟩
  · have h := u32_and_nat x 15 hx (by omega)
    have e : x &&& 15 = x % 16 := Nat.and_two_pow_sub_one_eq_mod x 4
    rw [e] at h
    exact h
  · have h := u32_xor_nat (x / 16) (steps 4 (x % 16)) (by omega) (steps_lt 4 _ (by omega))
    rw [steps_four x, ← h]
    congr 1
theorem byte_in (c : Nat) (b : UInt8) (hc : c < 4294967296) : ∃ x : Nat, x < 4294967296 ∧ bits BinOp.xor IntKind.u32 (c : Int) (b.toNat : Int) = (x : Int) ∧ x = c ^^^ b.toNat :=
  ⟨c ^^^ b.toNat, xor_byte_lt c b hc, u32_xor_nat c b.toNat hc (by have := b.toNat_lt; omega), rfl⟩
theorem crc_step (s : ByteArray) (k : Nat) (h : k < s.size) (c x y z : Nat) (hc : c = crc 4294967295 (s.data.toList.take k)) (hx : x = c ^^^ s[k].toNat) (hy : y = steps 4 x) (hz : z = steps 4 y) :
    crc 4294967295 (s.data.toList.take (k + 1)) = z := by
  rw [take_snoc s k h, crc_snoc, ← hc, hz, hy, hx]
  exact steps_add 4 4 _
theorem not_u32 (c : Nat) (h : c < 4294967296) : bits BinOp.xor IntKind.u32 IntKind.u32.max (c : Int) = ((4294967295 - c : Nat) : Int) := by
  have e := u32_xor_nat 4294967295 c (by omega) h
  rw [turn_over c h] at e
  exact e
/-- a byte more -/
def stepB (c : Nat) (b : UInt8) : Nat := steps 4 (steps 4 (c ^^^ b.toNat))
theorem stepB_lt (c : Nat) (b : UInt8) (hc : c < 4294967296) : stepB c b < 4294967296 := steps_lt 4 _ (steps_lt 4 _ (xor_byte_lt c b hc))
theorem crc_stepB (s : ByteArray) (k : Nat) (h : k < s.size) : crc 4294967295 (s.data.toList.take (k + 1)) = stepB (crc 4294967295 (s.data.toList.take k)) s[k] :=
  crc_step s k h _ _ _ _ rfl rfl rfl rfl
set_option maxHeartbeats 400000 in
theorem crcAdd_any (v c : Nat) (b : UInt8) (w : World) (hc : c < 4294967296) (hv : v = 4294967295 - c) (hT : Tab w) :
    Calls Tryd.prog 13 #[.int .u32 (v : Int), .int .u8 ((b.toNat : Nat) : Int)] w fun e w' => e = .returned (.int .u32 ((4294967295 - stepB c b : Nat) : Int)) ∧ w' = w := by
  have hn : bits BinOp.xor IntKind.u32 IntKind.u32.max (v : Int) = (c : Int) := by
    rw [not_u32 v (by omega)]; congr 1; omega
  have hbyte : b.toNat ≤ 255 := by have := b.toNat_lt; omega
  have hv2 : v < 4294967296 := by omega
  obtain ⟨x, hx1, hx2, hx⟩ := byte_in c b hc
  obtain ⟨r1, t1, y, hr1, hy1, hand1, hcell1, hxor1, hy⟩ := nibble x hx1 w hT
  obtain ⟨r2, t2, z, hr2, hz1, hand2, hcell2, hxor2, hz⟩ := nibble y hy1 w hT
  have hn2 := not_u32 z hz1
  have hsg : IntKind.u32.signed = false := rfl
  have H : Hid (stepB c b = z) := (by unfold stepB; rw [hz, hy, hx] : _ = _)
  clear hx hy hz hv
  go_enter Tryd.func13, Tryd.ntmps13
  go_wp2
  go_ret
  exact ⟨ret_int (by rw [H.out]), rfl⟩
set_option maxRecDepth 10000 in
set_option maxHeartbeats 400000 in
theorem crcOf_any (s : ByteArray) (w : World) (hs : s.size ≤ maxLen) (hT : Tab w) :
    Calls Tryd.prog 9 #[.string s] w fun e w' => e = .returned (.int .u32 ((4294967295 - crc 4294967295 s.data.toList : Nat) : Int)) ∧ w' = w := by
  unfold maxLen at hs
  go_enter Tryd.func9, Tryd.ntmps9
  go_wp2
  go_loop [3, 7] (fun c i => ∃ k v : Nat, k ≤ s.size ∧ i = .int .i64 k ∧ v = 4294967295 - crc 4294967295 (s.data.toList.take k) ∧ c = .int .u32 (v : Int)) (fun _ i => s.size - (intOf i).toNat)
  case atStart => exact ⟨0, 0, Nat.zero_le _, rfl, by rw [List.take_zero, crc_nil], rfl⟩
  case round =>
    obtain ⟨k, v, hk, rfl, hv, rfl⟩ := hrel
    have HV : Hid _ := hv
    clear hv
    by_cases hlt : k < s.size
    · have hb := crc_lt (s.data.toList.take k) 4294967295 (by decide)
      have HB : Hid _ := hb
      clear hb
      go_wp2_with fail
      refine (crcAdd_any v (crc 4294967295 (s.data.toList.take k)) s[k] _ HB.out HV.out hT).mono ?_
      rintro e w' ⟨rfl, rfl⟩
      go_wp2
      go_round
      case rel => exact ⟨k + 1, _, by omega, by go_num, by rw [crc_stepB s k hlt], rfl⟩
      case measure => simp [intOf]; omega
    · go_wp2
      go_ret
      exact ⟨ret_int (by rw [HV.out, take_all s k hlt]), rfl⟩
theorem crc_any (s : ByteArray) (w : World) (hs : s.size ≤ maxLen) (hT : Tab w) :
    Calls Tryd.prog 5 #[.string s] w fun e w' => e = .returned (.int .u32 ((4294967295 - crc 4294967295 s.data.toList : Nat) : Int)) ∧ w' = w := by
  go_enter Tryd.func5, Tryd.ntmps5
  go_wp2_with fail
  refine (crcOf_any s _ hs hT).mono ?_
  rintro e w' ⟨rfl, rfl⟩
  go_wp2
  go_ret
  exact ⟨rfl, rfl⟩
set_option maxHeartbeats 400000 in
theorem bit_any (v k : Nat) (w : World) (hv : v ≤ 255) (hk : k ≤ 8) :
    Calls Tryd.prog 10 #[.int .i64 v, .int .i64 k] w fun e w' => e = .returned (.int .i64 ((bitAt v k : Nat) : Int)) ∧ w' = w := by
  go_enter Tryd.func10, Tryd.ntmps10
  go_wp2
  go_loop [0, 1] (fun x j => ∃ n m y : Nat, n + m = k ∧ y = v / 2 ^ n ∧ j = .int .i64 m ∧ x = .int .i64 y) (fun _ j => (intOf j).toNat)
  case atStart => exact ⟨0, k, v, by omega, by simp, rfl, rfl⟩
  case round =>
    obtain ⟨n, m, y, hnm, hy, rfl, rfl⟩ := hrel
    have hle : y ≤ 255 := by rw [hy]; exact Nat.le_trans (Nat.div_le_self _ _) hv
    have hmk : m ≤ 8 := by omega
    by_cases hm : 0 < m
    · have H : Hid (n + 1 + (m - 1) = k ∧ y / 2 = v / 2 ^ (n + 1)) := (⟨by omega, by rw [hy, half_more]⟩ : _ ∧ _)
      clear hnm hy
      go_wp2
      go_round
      case rel => exact ⟨n + 1, m - 1, y / 2, H.out.1, H.out.2, by go_num, by go_num⟩
      case measure => simp [intOf]; omega
    · have hm0 : m = 0 := by omega
      subst hm0
      have H : Hid (y = v / 2 ^ k) := (by rw [← hnm]; exact hy : _ = _)
      clear hnm hy
      go_wp2
      go_ret
      exact ⟨ret_int (by rw [bitAt_of v k y H.out]; omega), rfl⟩
set_option maxHeartbeats 400000 in
theorem xor_any (a b : Nat) (w : World) (ha : a < 4294967296) (hb : b < 4294967296) :
    Calls Tryd.prog 11 #[.int .i64 a, .int .i64 b] w fun e w' => e = .returned (.int .i64 ((a ^^^ b : Nat) : Int)) ∧ w' = w := by
  go_enter Tryd.func11, Tryd.ntmps11
  go_wp2
  go_loop [0, 1, 5, 6, 7] (fun x y o u i => ∃ k p q r s : Nat, k ≤ 32 ∧ p = a / 2 ^ k ∧ q = b / 2 ^ k ∧ r = (a ^^^ b) % 2 ^ k ∧ s = 2 ^ k ∧ x = .int .i64 p ∧ y = .int .i64 q ∧ o = .int .i64 r ∧ u = .int .i64 s ∧ i = .int .i64 k) (fun _ _ _ _ i => 32 - (intOf i).toNat)
  case atStart => exact ⟨0, a, b, 0, 1, by omega, by simp, by simp, by simp [Nat.mod_one], rfl, rfl, rfl, rfl, rfl, rfl⟩
  case round =>
    obtain ⟨k, p, q, r, s, hk, hp, hq, hr, hs, rfl, rfl, rfl, rfl, rfl⟩ := hrel
    have hp1 : p < 4294967296 := by rw [hp]; exact Nat.lt_of_le_of_lt (Nat.div_le_self _ _) ha
    have hq1 : q < 4294967296 := by rw [hq]; exact Nat.lt_of_le_of_lt (Nat.div_le_self _ _) hb
    have hs1 : s ≤ 4294967296 := by rw [hs]; exact Nat.pow_le_pow_right (n := 2) (by omega) hk
    have hr1 : r < 4294967296 := by rw [hr]; exact Nat.lt_of_lt_of_le (Nat.mod_lt _ (Nat.two_pow_pos k)) (Nat.pow_le_pow_right (n := 2) (by omega) hk)
    by_cases hlt : k < 32
    · have H : Hid (p / 2 = a / 2 ^ (k + 1) ∧ q / 2 = b / 2 ^ (k + 1) ∧ r + (p + q) % 2 * s = (a ^^^ b) % 2 ^ (k + 1) ∧ 2 * s = 2 ^ (k + 1)) :=
        (⟨by rw [hp, half_more], by rw [hq, half_more], by rw [hr, hp, hq, hs, xor_more], by rw [hs, Nat.pow_succ, Nat.mul_comm]⟩ : _ ∧ _ ∧ _ ∧ _)
      clear hp hq hr hs
      by_cases hodd : (p + q) % 2 = 1
      · have ho : ((p : Int) + (q : Int)) % 2 = 1 := by omega
        rw [hodd] at H
        clear hodd
        go_wp2
        go_round
        case rel => exact ⟨k + 1, p / 2, q / 2, r + s, 2 * s, by omega, H.out.1, H.out.2.1, by rw [← H.out.2.2.1]; omega, H.out.2.2.2, by go_num, by go_num, by go_num, by go_num, by go_num⟩
        case measure => simp [intOf]; omega
      · have ho : ((p : Int) + (q : Int)) % 2 = 0 := by omega
        rw [show (p + q) % 2 = 0 by omega] at H
        clear hodd
        go_wp2
        go_round
        case rel => exact ⟨k + 1, p / 2, q / 2, r, 2 * s, by omega, H.out.1, H.out.2.1, by rw [← H.out.2.2.1]; omega, H.out.2.2.2, by go_num, by go_num, by go_num, by go_num, by go_num⟩
        case measure => simp [intOf]; omega
    · have hk2 : k = 32 := by omega
      subst hk2
      have H : Hid (r = a ^^^ b) := (by rw [hr]; exact Nat.mod_eq_of_lt (Nat.xor_lt_two_pow (n := 32) ha hb) : _ = _)
      clear hp hq hr hs
      go_wp2
      go_ret
      exact ⟨ret_int (by rw [← H.out]), rfl⟩
theorem xor_int (a b : Int) (w : World) (m n : Nat) (ha : a = m) (hb : b = n) (hm : m < 4294967296) (hn : n < 4294967296) :
    Calls Tryd.prog 11 #[.int .i64 a, .int .i64 b] w fun e w' => e = .returned (.int .i64 ((m ^^^ n : Nat) : Int)) ∧ w' = w := by
  subst ha hb; exact xor_any m n w hm hn
set_option maxHeartbeats 1000000 in
theorem refcrc_any (s : ByteArray) (w : World) (hs : s.size ≤ maxLen) :
    Calls Tryd.prog 6 #[.string s] w fun e w' => e = .returned (.int .u32 ((4294967295 - crc 4294967295 s.data.toList : Nat) : Int)) ∧ w' = w := by
  unfold maxLen at hs
  go_enter Tryd.func6, Tryd.ntmps6
  go_wp2
  go_loop [3, 4] (fun c i => ∃ k : Nat, k ≤ s.size ∧ i = .int .i64 k ∧ c = .int .i64 ((crc 4294967295 (s.data.toList.take k) : Nat) : Int)) (fun _ i => s.size - (intOf i).toNat)
  case atStart => exact ⟨0, Nat.zero_le _, rfl, rfl⟩
  case round =>
    obtain ⟨k, hk, rfl, rfl⟩ := hrel
    have hb := crc_lt (s.data.toList.take k) 4294967295 (by decide)
    by_cases hlt : k < s.size
    · obtain ⟨c, hc⟩ : ∃ c, c = crc 4294967295 (s.data.toList.take k) := ⟨_, rfl⟩
      rw [← hc] at hb ⊢
      have hbyte : s[k].toNat ≤ 255 := by have := s[k].toNat_lt; omega
      have HC : Hid (crc 4294967295 (s.data.toList.take (k + 1)) = stepsb 8 c s[k].toNat) := (by rw [take_snoc s k hlt, crc_snoc, ← hc, next_eq] : _ = _)
      clear hc
      go_wp2
      go_loop [3, 5] (fun x j => ∃ n y : Nat, n ≤ 8 ∧ y = stepsb n c s[k].toNat ∧ j = .int .i64 n ∧ x = .int .i64 y) (fun _ j => 8 - (intOf j).toNat)
      case atStart => exact ⟨0, c, by omega, rfl, rfl, rfl⟩
      case round =>
        obtain ⟨n, y, hn, hy, rfl, rfl⟩ := hrel
        have hy1 : y < 4294967296 := by rw [hy]; exact stepsb_lt n c _ hb
        by_cases hn8 : n < 8
        · have hm := stepsb_more n c s[k].toNat
          rw [← hy] at hm
          have hbit := bitAt_le s[k].toNat n
          by_cases heq : y % 2 = bitAt s[k].toNat n
          · rw [if_pos heq] at hm
            have H : Hid _ := hm
            have ht : ((y : Int) % 2 != ((bitAt s[k].toNat n : Nat) : Int)) = false := by
              rw [bne_eq_false_iff_eq]; omega
            clear hm hy heq
            go_wp2_with fail
            refine (bit_any _ _ _ hbyte hn).mono ?_
            rintro e w' ⟨rfl, rfl⟩
            go_wp2
            go_round
            case rel => exact ⟨n + 1, y / 2, by omega, H.out.symm, by go_num, by go_num⟩
            case measure => simp [intOf]; omega
          · rw [if_neg heq] at hm
            have H : Hid _ := hm
            have ht : ((y : Int) % 2 != ((bitAt s[k].toNat n : Nat) : Int)) = true := by
              rw [bne_iff_ne]; omega
            clear hm hy heq
            go_wp2_with fail
            refine (bit_any _ _ _ hbyte hn).mono ?_
            rintro e w' ⟨rfl, rfl⟩
            go_wp2_with fail
            refine (xor_int _ _ _ (y / 2) 3988292384 (by omega) (by omega) (by omega) (by omega)).mono ?_
            rintro e w' ⟨rfl, rfl⟩
            go_wp2
            go_round
            case rel => exact ⟨n + 1, (y / 2) ^^^ 3988292384, by omega, H.out.symm, by go_num, rfl⟩
            case measure => simp [intOf]; omega
        · have hn2 : n = 8 := by omega
          subst hn2
          have H : Hid _ := hy
          clear hy
          go_wp2
          go_round
          case rel => exact ⟨k + 1, by omega, by go_num, by rw [HC.out, H.out]⟩
          case measure => simp [intOf]; omega
    · rw [take_all s k hlt] at hb ⊢
      go_wp2
      go_ret
      exact ⟨ret_int (by omega), rfl⟩
end Go.Proofs.YtephkcdbnogdhaaDoor
