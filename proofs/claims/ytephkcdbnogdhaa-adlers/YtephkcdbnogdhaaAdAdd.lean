/- The walks of the Adler sum: what running.Adler's Add returns. -/
import Derived.Test.YtephkcdbnogdhaaRows
import Derived.Test.YtephkcdbnogdhaaMath
import Derived.WalkKit
import Derived.Laws.BitsAllLaws
namespace Go.Proofs.Ytephkcdbnogdhaa.AdW
open Go.RowKit Ad
theorem take_snoc (s : ByteArray) (k : Nat) (h : k < s.size) : s.data.toList.take (k + 1) = s.data.toList.take k ++ [s[k]] := by
  rw [List.take_succ_eq_append_getElem (by simpa using h)]; rfl
theorem adl_step (s : ByteArray) (k : Nat) (h : k < s.size) (a b : Nat) : adl a b (s.data.toList.take (k + 1)) = (((adl a b (s.data.toList.take k)).1 + s[k].toNat) % 65521, ((adl a b (s.data.toList.take k)).2 + ((adl a b (s.data.toList.take k)).1 + s[k].toNat) % 65521) % 65521) := by
  rw [take_snoc s k h, adl_snoc]
theorem ret_int {k : IntKind} {a b : Int} (h : a = b) : Ending.returned (.int k a) = .returned (.int k b) := by rw [h]
theorem val_int {k : IntKind} {a b : Int} (h : a = b) : Value.int k a = .int k b := by rw [h]
theorem take_all (s : ByteArray) (k : Nat) (h : ¬ k < s.size) : s.data.toList.take k = s.data.toList := List.take_of_length_le (by simp; omega)
theorem or_sum (x y : Nat) (hx : x ≤ 65520) (hy : y ≤ 65520) : bits BinOp.or IntKind.u32 ((y : Int) * 65536) (x : Int) = ((65536 * y + x : Nat) : Int) := by
  have h := u32_or_nat (y * 65536) x (by omega) (by omega)
  have e : y * 65536 ||| x = 65536 * y + x := by
    rw [Nat.mul_comm y]; exact (Nat.two_pow_add_eq_or_of_lt (i := 16) (by omega) y).symm
  rw [e] at h
  rw [← h]; congr 1
theorem and_low (v : Nat) (h : v < 4294967296) : bits BinOp.and IntKind.u32 (v : Int) 65535 = ((v % 65536 : Nat) : Int) := by
  have h := u32_and_nat v 65535 h (by omega)
  have e : v &&& 65535 = v % 65536 := Nat.and_two_pow_sub_one_eq_mod v 16
  rw [e] at h
  exact h
/-- a sum by one byte more, both halves in one number -/
def addT (v c : Nat) : Nat := 65536 * ((v / 65536 + (v % 65536 + c) % 65521) % 65521) + (v % 65536 + c) % 65521
/-- both sums in one number -/
def one (p : Nat × Nat) : Nat := 65536 * p.2 + p.1
theorem one_lo (p : Nat × Nat) (h : p.1 ≤ 65520) : one p % 65536 = p.1 := by unfold one; omega
theorem one_hi (p : Nat × Nat) (h : p.1 ≤ 65520) : one p / 65536 = p.2 := by unfold one; omega
theorem adl_one (s : ByteArray) (k : Nat) (h : k < s.size) : one (adl 1 0 (s.data.toList.take (k + 1))) = addT (one (adl 1 0 (s.data.toList.take k))) s[k].toNat := by
  have hb := adl_bd (s.data.toList.take k) 1 0 (by omega) (by omega)
  rw [adl_step s k h]
  unfold addT
  rw [one_lo _ hb.1, one_hi _ hb.1]
  rfl
theorem addT_parts (v c : Nat) (h1 : v % 65536 ≤ 65520) (h2 : v / 65536 ≤ 65520) (hc : c ≤ 255) : ∃ x y t p z q : Nat, addT v c = 65536 * q + p ∧ v < 4294967296 ∧ v % 65536 = x ∧ (v : Int) / 65536 = (y : Int) ∧ (x : Int) + (c : Int) = (t : Int) ∧ (y : Int) + (p : Int) = (z : Int) ∧ t ≤ 70000 ∧ z ≤ 140000 ∧ p ≤ 65520 ∧ q ≤ 65520 ∧
    (decide ((65521 : Int) ≤ (t : Int)) = false ∧ p = t ∨ (decide ((65521 : Int) ≤ (t : Int)) = true ∧ 65521 ≤ t) ∧ (t : Int) - 65521 = (p : Int)) ∧ (decide ((65521 : Int) ≤ (z : Int)) = false ∧ q = z ∨ (decide ((65521 : Int) ≤ (z : Int)) = true ∧ 65521 ≤ z) ∧ (z : Int) - 65521 = (q : Int)) := by
  refine ⟨v % 65536, v / 65536, v % 65536 + c, (v % 65536 + c) % 65521, v / 65536 + (v % 65536 + c) % 65521, (v / 65536 + (v % 65536 + c) % 65521) % 65521, rfl, by omega, rfl, by omega, by omega, by omega, by omega, by omega, by omega, by omega, ?_, ?_⟩
  · by_cases h : v % 65536 + c < 65521
    · exact .inl ⟨decide_eq_false (by omega), by omega⟩
    · exact .inr ⟨⟨decide_eq_true (by omega), by omega⟩, by omega⟩
  · by_cases h : v / 65536 + (v % 65536 + c) % 65521 < 65521
    · exact .inl ⟨decide_eq_false (by omega), by omega⟩
    · exact .inr ⟨⟨decide_eq_true (by omega), by omega⟩, by omega⟩
set_option maxRecDepth 10000 in
set_option maxHeartbeats 1000000 in
theorem add_any (V c : Nat) (w : World) (h1 : V % 65536 ≤ 65520) (h2 : V / 65536 ≤ 65520) (hc : c ≤ 255) :
    Calls Try.prog 6 #[.int .u32 (V : Int), .int .u8 (c : Int)] w fun e w' => e = .returned (.int .u32 ((addT V c : Nat) : Int)) ∧ w' = w := by
  obtain ⟨x, y, t, p, z, q, e0, e1, e2, e3, e4, e5, e6, e7, e8, e9, e10, e11⟩ := addT_parts V c h1 h2 hc
  rw [e0]
  have ha : bits BinOp.and IntKind.u32 (V : Int) 65535 = (x : Int) := by rw [and_low V e1, e2]
  have ho := or_sum p q e8 e9
  clear e0 e2 h1 h2
  rcases e10 with ⟨h1, rfl⟩ | ⟨⟨h1, h1b⟩, ep⟩
  · rcases e11 with ⟨h2, rfl⟩ | ⟨⟨h2, h2b⟩, eq⟩
    · go_enter Try.func6, Try.ntmps6
      go_wp2
      go_ret
      exact ⟨rfl, rfl⟩
    · go_enter Try.func6, Try.ntmps6
      go_wp2
      go_ret
      exact ⟨rfl, rfl⟩
  · rcases e11 with ⟨h2, rfl⟩ | ⟨⟨h2, h2b⟩, eq⟩
    · go_enter Try.func6, Try.ntmps6
      go_wp2
      go_ret
      exact ⟨rfl, rfl⟩
    · go_enter Try.func6, Try.ntmps6
      go_wp2
      go_ret
      exact ⟨rfl, rfl⟩
end Go.Proofs.Ytephkcdbnogdhaa.AdW
