/- A row of bits as numbers: what several bits are together. Nothing of the program is named here. -/
import Derived.Test.YtjfifmadldcjjaaGreatDoorRefMath3
namespace Go.Proofs.YtjfifmadldcjjaaGreatDoor.Rf
/-- bit p of a text -/
def bitP (s : ByteArray) (p : Nat) : Nat := bitAt (byteAt s (p / 8)) (p % 8)
theorem bitP_le (s : ByteArray) (p : Nat) : bitP s p ≤ 1 := bitAt_le _ _
/-- n bits from p on, the lowest first -/
def bitsV (s : ByteArray) (p : Nat) : Nat → Nat
  | 0 => 0
  | n + 1 => bitsV s p n + 2 ^ n * bitP s (p + n)
theorem bitsV_lt (s : ByteArray) (p n : Nat) : bitsV s p n < 2 ^ n := by
  induction n with
  | zero => simp [bitsV]
  | succ n ih =>
    have h := bitP_le s (p + n)
    have h2 : 2 ^ n * bitP s (p + n) ≤ 2 ^ n * 1 := Nat.mul_le_mul_left _ h
    rw [bitsV, Nat.pow_succ]; omega
theorem bitsV_add (s : ByteArray) (p a b : Nat) : bitsV s p (a + b) = bitsV s p a + 2 ^ a * bitsV s (p + a) b := by
  induction b with
  | zero => simp [bitsV]
  | succ b ih =>
    rw [← Nat.add_assoc, bitsV, ih, bitsV, Nat.mul_add, ← Nat.mul_assoc, ← Nat.pow_add, Nat.add_assoc, Nat.add_assoc p a b]
theorem bitsV_mod (s : ByteArray) (p a c : Nat) (h : a ≤ c) : bitsV s p c % 2 ^ a = bitsV s p a := by
  have e := bitsV_add s p a (c - a)
  rw [show a + (c - a) = c by omega] at e
  rw [e, Nat.add_mul_mod_self_left, Nat.mod_eq_of_lt (bitsV_lt s p a)]
theorem bitsV_div (s : ByteArray) (p a c : Nat) (h : a ≤ c) : bitsV s p c / 2 ^ a = bitsV s (p + a) (c - a) := by
  have e := bitsV_add s p a (c - a)
  rw [show a + (c - a) = c by omega] at e
  rw [e, Nat.add_mul_div_left _ _ (Nat.two_pow_pos a), Nat.div_eq_of_lt (bitsV_lt s p a), Nat.zero_add]
theorem eight_bits (v : Nat) (h : v ≤ 255) : bitAt v 0 + 2 * bitAt v 1 + 4 * bitAt v 2 + 8 * bitAt v 3 + 16 * bitAt v 4 + 32 * bitAt v 5 + 64 * bitAt v 6 + 128 * bitAt v 7 = v := by
  simp only [bitAt]
  have e0 : (2 : Nat) ^ 0 = 1 := rfl
  have e1 : (2 : Nat) ^ 1 = 2 := rfl
  have e2 : (2 : Nat) ^ 2 = 4 := rfl
  have e3 : (2 : Nat) ^ 3 = 8 := rfl
  have e4 : (2 : Nat) ^ 4 = 16 := rfl
  have e5 : (2 : Nat) ^ 5 = 32 := rfl
  have e6 : (2 : Nat) ^ 6 = 64 := rfl
  have e7 : (2 : Nat) ^ 7 = 128 := rfl
  rw [e0, e1, e2, e3, e4, e5, e6, e7]
  omega
theorem bitsV_byte (s : ByteArray) (p t : Nat) (h : p = 8 * t) : bitsV s p 8 = byteAt s t := by
  have hk : ∀ k, k < 8 → bitP s (p + k) = bitAt (byteAt s t) k := fun k hk => by
    unfold bitP
    rw [show (p + k) / 8 = t by omega, show (p + k) % 8 = k by omega]
  simp only [bitsV]
  rw [hk 0 (by omega), hk 1 (by omega), hk 2 (by omega), hk 3 (by omega), hk 4 (by omega), hk 5 (by omega), hk 6 (by omega), hk 7 (by omega)]
  have h8 := eight_bits (byteAt s t) (byteAt_lt s t)
  have e0 : (2 : Nat) ^ 0 = 1 := rfl
  have e1 : (2 : Nat) ^ 1 = 2 := rfl
  have e2 : (2 : Nat) ^ 2 = 4 := rfl
  have e3 : (2 : Nat) ^ 3 = 8 := rfl
  have e4 : (2 : Nat) ^ 4 = 16 := rfl
  have e5 : (2 : Nat) ^ 5 = 32 := rfl
  have e6 : (2 : Nat) ^ 6 = 64 := rfl
  have e7 : (2 : Nat) ^ 7 = 128 := rfl
  rw [e0, e1, e2, e3, e4, e5, e6, e7]
  omega
/-- a byte more behind whole bytes -/
theorem bitsV_more (s : ByteArray) (p c t : Nat) (h : p + c = 8 * t) : bitsV s p (c + 8) = bitsV s p c + byteAt s t * 2 ^ c := by
  rw [bitsV_add, bitsV_byte s (p + c) t h, Nat.mul_comm]
theorem numL_ok (s : ByteArray) (k : Nat) : ∀ v i p, p + k ≤ 8 * s.size → numL s k v (2 ^ i) ⟨p, false⟩ = (v + 2 ^ i * bitsV s p k, ⟨p + k, false⟩) := by
  induction k with
  | zero => intro v i p _; simp [numL, bitsV]
  | succ k ih =>
    intro v i p h
    rw [numL, oneT_go s ⟨p, false⟩ (by simp; omega)]
    dsimp only
    rw [show 2 * 2 ^ i = 2 ^ (i + 1) by rw [Nat.pow_succ, Nat.mul_comm], ih _ _ _ (by omega), Nat.add_comm k 1, bitsV_add s p 1 k]
    simp only [bitsV, Nat.pow_zero, Nat.one_mul, Nat.add_zero, Nat.zero_add, Nat.pow_succ, bitP]
    rw [Nat.mul_add, Nat.mul_assoc (2 ^ i) 2, Nat.add_assoc, Nat.add_assoc p 1 k]
theorem numT_ok (s : ByteArray) (n p : Nat) (h : p + n ≤ 8 * s.size) : numT s n ⟨p, false⟩ = (bitsV s p n, ⟨p + n, false⟩) := by
  have := numL_ok s n 0 0 p h
  simpa [numT] using this
theorem numL_short (s : ByteArray) (k : Nat) : ∀ v u p, p ≤ 8 * s.size → ¬ p + k ≤ 8 * s.size → (numL s k v u ⟨p, false⟩).2.bad = true := by
  induction k with
  | zero => intro v u p h1 h2; omega
  | succ k ih =>
    intro v u p h1 h2
    rw [numL]
    by_cases hp : p < 8 * s.size
    · rw [oneT_go s ⟨p, false⟩ (by simp; omega)]
      exact ih _ _ _ (by show p + 1 ≤ _; omega) (by show ¬ p + 1 + k ≤ _; omega)
    · rw [oneT_bad s ⟨p, false⟩ (.inr (by show 8 * s.size ≤ p; omega))]
      exact numL_keep s k _ _ _ rfl
theorem numT_short (s : ByteArray) (n p : Nat) (h1 : p ≤ 8 * s.size) (h2 : ¬ p + n ≤ 8 * s.size) : (numT s n ⟨p, false⟩).2.bad = true := numL_short s n _ _ p h1 h2
theorem oneT_ok (s : ByteArray) (p : Nat) (h : p < 8 * s.size) : oneT s ⟨p, false⟩ = (bitsV s p 1, ⟨p + 1, false⟩) := by
  rw [oneT_go s ⟨p, false⟩ (by simp; omega)]
  simp [bitsV, bitP]
theorem oneT_short (s : ByteArray) (p : Nat) (h : ¬ p < 8 * s.size) : (oneT s ⟨p, false⟩).2.bad = true := by
  rw [oneT_bad s ⟨p, false⟩ (.inr (by show 8 * s.size ≤ p; omega))]
/-- what is left of a text behind its first bytes -/
theorem rest_size (s : ByteArray) (t : Nat) : (s.extract t s.size).size = s.size - t := by simp
theorem rest_more (s : ByteArray) (t : Nat) (h : t < s.size) : (s.extract t s.size).extract 1 (s.extract t s.size).size = s.extract (t + 1) s.size := by
  apply ByteArray.ext
  simp only [ByteArray.data_extract, rest_size s t, Array.extract_extract]
  congr 1
  omega
theorem rest_first (s : ByteArray) (t : Nat) (h : t < s.size) (h0 : 0 < (s.extract t s.size).size) : ((s.extract t s.size)[0]).toNat = byteAt s t := by
  rw [byteAt_is s t h]
  congr 1
  show (s.extract t s.size).data[0] = s.data[t]
  simp [ByteArray.data_extract]
end Go.Proofs.YtjfifmadldcjjaaGreatDoor.Rf
