/- The walks of the Adler sum: what sum.adlerAdd and sum.Adler return. -/
import Derived.Test.YtdplicbaepcmiaaDoorRows
import Derived.Test.YtdplicbaepcmiaaDoorMath
import Derived.WalkKit
import Derived.Laws.BitsAllLaws
namespace Go.Proofs.YtdplicbaepcmiaaDoor.AdW
open Go.RowKit Ad
/-- how many bytes a text's value has -/
def strLen : Value → Nat
  | .string t => t.size
  | _ => 0
theorem take_snoc (s : ByteArray) (k : Nat) (h : k < s.size) : s.data.toList.take (k + 1) = s.data.toList.take k ++ [s[k]] := by
  rw [List.take_succ_eq_append_getElem (by simpa using h)]; rfl
theorem adl_step (s : ByteArray) (k : Nat) (h : k < s.size) (a b : Nat) : adl a b (s.data.toList.take (k + 1)) = (((adl a b (s.data.toList.take k)).1 + s[k].toNat) % 65521, ((adl a b (s.data.toList.take k)).2 + ((adl a b (s.data.toList.take k)).1 + s[k].toNat) % 65521) % 65521) := by
  rw [take_snoc s k h, adl_snoc]
theorem raw_step (s : ByteArray) (k : Nat) (h : k < s.size) (a b : Nat) : raw a b (s.data.toList.take (k + 1)) = ((raw a b (s.data.toList.take k)).1 + s[k].toNat, (raw a b (s.data.toList.take k)).2 + ((raw a b (s.data.toList.take k)).1 + s[k].toNat)) := by
  rw [take_snoc s k h, raw_snoc]
theorem ret_int {k : IntKind} {a b : Int} (h : a = b) : Ending.returned (.int k a) = .returned (.int k b) := by rw [h]
theorem ret_two {k : IntKind} {a b c d : Int} (h : a = b) (g : c = d) : Ending.returned (.tuple #[.int k a, .int k c]) = .returned (.tuple #[.int k b, .int k d]) := by rw [h, g]
theorem val_int {k : IntKind} {a b : Int} (h : a = b) : Value.int k a = .int k b := by rw [h]
theorem take_all (s : ByteArray) (k : Nat) (h : ¬ k < s.size) : s.data.toList.take k = s.data.toList := List.take_of_length_le (by simp; omega)
set_option maxHeartbeats 400000 in
theorem add_any (a b : Nat) (s : ByteArray) (w : World) (ha : a ≤ 65520) (hb : b ≤ 65520) (hs : s.size ≤ 5552) :
    Calls Tryd.prog 11 #[.int .u32 a, .int .u32 b, .string s] w fun e w' => e = .returned (.tuple #[.int .u32 ((adl a b s.data.toList).1 : Nat), .int .u32 ((adl a b s.data.toList).2 : Nat)]) ∧ w' = w := by
  go_enter Tryd.func11, Tryd.ntmps11
  go_wp2
  go_loop [0, 1, 11] (fun x y i => ∃ k : Nat, k ≤ s.size ∧ i = .int .i64 k ∧ x = .int .u32 ((raw a b (s.data.toList.take k)).1 : Nat) ∧ y = .int .u32 ((raw a b (s.data.toList.take k)).2 : Nat)) (fun _ _ i => s.size - (intOf i).toNat)
  case atStart => exact ⟨0, Nat.zero_le _, rfl, rfl, rfl⟩
  case round =>
    obtain ⟨k, hk, rfl, rfl, rfl⟩ := hrel
    by_cases hlt : k < s.size
    · have hr : (s.data.toList.take (k + 1)).length ≤ 5552 := by rw [List.length_take]; omega
      obtain ⟨hb1, hb2⟩ := raw_fit (s.data.toList.take (k + 1)) a b ha hb hr
      rw [raw_step s k hlt] at hb1 hb2
      have hc : s[k].toNat ≤ 255 := by have := s[k].toNat_lt; omega
      simp only at hb1 hb2
      go_wp2
      go_round
      case rel => exact ⟨k + 1, by omega, by go_num, by rw [raw_step s k hlt]; go_num, by rw [raw_step s k hlt]; go_num⟩
      case measure => simp [intOf]; omega
    · have HR : Hid (adl a b s.data.toList = ((raw a b s.data.toList).1 % 65521, (raw a b s.data.toList).2 % 65521)) := adl_raw' s.data.toList a b ha hb
      rw [take_all s k hlt]
      go_wp2
      go_ret2
      exact ⟨ret_two (by rw [HR.out]; omega) (by rw [HR.out]; omega), rfl⟩
theorem extract_drop (t : ByteArray) (n : Nat) : (t.extract n t.size).data.toList = t.data.toList.drop n := by
  simp only [ByteArray.data_extract, Array.toList_extract, List.extract_eq_take_drop]
  exact List.take_of_length_le (by simp)
theorem extract_size (t : ByteArray) (n : Nat) (h : n ≤ t.size) : (t.extract 0 n).size = n := by simp; omega
theorem or_sum (x y : Nat) (hx : x ≤ 65520) (hy : y ≤ 65520) : bits BinOp.or IntKind.u32 ((y : Int) * 65536) (x : Int) = ((65536 * y + x : Nat) : Int) := by
  have h := u32_or_nat (y * 65536) x (by omega) (by omega)
  have e : y * 65536 ||| x = 65536 * y + x := by
    rw [Nat.mul_comm y]; exact (Nat.two_pow_add_eq_or_of_lt (i := 16) (by omega) y).symm
  rw [e] at h
  rw [← h]; congr 1
/-- one run more: what was taken, what is left, the sums behind it -/
theorem run_all (s t : ByteArray) (l : List UInt8) (x y : Nat) (h : s.data.toList = l ++ t.data.toList) (hx : x = (adl 1 0 l).1) (hy : y = (adl 1 0 l).2) :
    s.data.toList = (l ++ t.data.toList) ++ ByteArray.empty.data.toList ∧ (adl x y t.data.toList).1 = (adl 1 0 (l ++ t.data.toList)).1 ∧ (adl x y t.data.toList).2 = (adl 1 0 (l ++ t.data.toList)).2 :=
  ⟨by simpa using h, by rw [adl_append, hx, hy], by rw [adl_append, hx, hy]⟩
theorem run_on (s t : ByteArray) (l : List UInt8) (n x y : Nat) (h : s.data.toList = l ++ t.data.toList) (hx : x = (adl 1 0 l).1) (hy : y = (adl 1 0 l).2) :
    s.data.toList = (l ++ t.data.toList.take n) ++ (t.extract n t.size).data.toList ∧ (adl x y (t.data.toList.take n)).1 = (adl 1 0 (l ++ t.data.toList.take n)).1 ∧ (adl x y (t.data.toList.take n)).2 = (adl 1 0 (l ++ t.data.toList.take n)).2 := by
  refine ⟨?_, ?_, ?_⟩
  · rw [extract_drop, List.append_assoc, List.take_append_drop]; exact h
  · rw [adl_append, hx, hy]
  · rw [adl_append, hx, hy]
set_option maxHeartbeats 400000 in
theorem adler_any (s : ByteArray) (w : World) (hs : s.size ≤ maxLen) :
    Calls Tryd.prog 7 #[.string s] w fun e w' => e = .returned (.int .u32 ((65536 * (adl 1 0 s.data.toList).2 + (adl 1 0 s.data.toList).1 : Nat) : Int)) ∧ w' = w := by
  unfold maxLen at hs
  go_enter Tryd.func7, Tryd.ntmps7
  go_wp2
  go_loop [0, 3, 4] (fun t a b => ∃ (l : List UInt8) (m : ByteArray) (x y : Nat), s.data.toList = l ++ m.data.toList ∧ t = .string m ∧ x = (adl 1 0 l).1 ∧ y = (adl 1 0 l).2 ∧ a = .int .u32 x ∧ b = .int .u32 y) (fun t _ _ => strLen t)
  case atStart => exact ⟨[], s, 1, 0, rfl, rfl, rfl, rfl, rfl, rfl⟩
  case round =>
    obtain ⟨l, m, x, y, hlm, rfl, hx, hy, rfl, rfl⟩ := hrel
    obtain ⟨hb1, hb2⟩ := adl_bd l 1 0 (by omega) (by omega)
    rw [← hx] at hb1
    rw [← hy] at hb2
    have hml : m.size ≤ 2 ^ 63 - 1 := by have := congrArg List.length hlm; simp at this; omega
    by_cases hlt : 0 < m.size
    · by_cases hle : m.size ≤ 5552
      · have H : Hid _ := run_all s m l x y hlm hx hy
        have hz2 : strLen (.string ByteArray.empty) < strLen (.string m) := by simp [strLen]; omega
        clear hx hy hlm
        go_wp2_with fail
        refine (add_any x y _ _ hb1 hb2 (by first | exact hle | (rw [extract_size m m.size (Nat.le_refl _)]; exact hle))).mono ?_
        rintro e w' ⟨rfl, rfl⟩
        go_wp2_with fail
        go_round
        case rel => exact ⟨_, _, _, _, H.out.1, rfl, H.out.2.1, H.out.2.2, rfl, rfl⟩
        case measure => exact hz2
      · have H : Hid _ := run_on s m l 5552 x y hlm hx hy
        have hz2 : strLen (.string (m.extract 5552 m.size)) < strLen (.string m) := by simp [strLen]; omega
        clear hx hy hlm
        go_wp2_with fail
        refine (add_any x y _ _ hb1 hb2 (by rw [extract_size m 5552 (by omega)]; exact Nat.le_refl _)).mono ?_
        rintro e w' ⟨rfl, rfl⟩
        go_wp2_with fail
        go_round
        case rel => exact ⟨_, _, _, _, H.out.1, rfl, H.out.2.1, H.out.2.2, rfl, rfl⟩
        case measure => exact hz2
    · have hm : m.data.toList = [] := List.eq_nil_of_length_eq_zero (by rw [Array.length_toList]; show m.size = 0; omega)
      rw [hm, List.append_nil] at hlm
      have H : Hid (x = (adl 1 0 s.data.toList).1 ∧ y = (adl 1 0 s.data.toList).2) := (by rw [hlm]; exact ⟨hx, hy⟩ : _ ∧ _)
      clear hx hy hlm hm
      go_wp2
      go_ret
      exact ⟨ret_int (by rw [or_sum x y hb1 hb2, ← H.out.1, ← H.out.2]; go_num), rfl⟩
end Go.Proofs.YtdplicbaepcmiaaDoor.AdW
