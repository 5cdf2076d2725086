/- Plain arithmetic of the Adler sum: the two running sums, with and without the modulo at each byte. Nothing of the program is named here. -/
namespace Go.Proofs.Ytephkcdbnogdhaa.Ad
/-- both sums, nothing taken modulo -/
def raw : Nat → Nat → List UInt8 → Nat × Nat
  | a, b, [] => (a, b)
  | a, b, c :: l => raw (a + c.toNat) (b + (a + c.toNat)) l
/-- both sums, modulo 65521 at each byte -/
def adl : Nat → Nat → List UInt8 → Nat × Nat
  | a, b, [] => (a, b)
  | a, b, c :: l => adl ((a + c.toNat) % 65521) ((b + (a + c.toNat) % 65521) % 65521) l
theorem adl_raw (l : List UInt8) : ∀ a b : Nat, adl (a % 65521) (b % 65521) l = ((raw a b l).1 % 65521, (raw a b l).2 % 65521) := by
  induction l with
  | nil => intro a b; rfl
  | cons c l ih =>
    intro a b
    simp only [adl, raw]
    rw [← ih]
    have h1 : (a % 65521 + c.toNat) % 65521 = (a + c.toNat) % 65521 := by omega
    have h2 : (b % 65521 + (a % 65521 + c.toNat) % 65521) % 65521 = (b + (a + c.toNat)) % 65521 := by omega
    rw [h1] at h2 ⊢
    rw [h2]
theorem adl_raw' (l : List UInt8) (a b : Nat) (ha : a ≤ 65520) (hb : b ≤ 65520) : adl a b l = ((raw a b l).1 % 65521, (raw a b l).2 % 65521) := by
  have h := adl_raw l a b
  rwa [Nat.mod_eq_of_lt (a := a) (by omega), Nat.mod_eq_of_lt (a := b) (by omega)] at h
theorem adl_append (l m : List UInt8) : ∀ a b : Nat, adl a b (l ++ m) = adl (adl a b l).1 (adl a b l).2 m := by
  induction l with
  | nil => intro a b; rfl
  | cons c l ih => intro a b; simp only [List.cons_append, adl]; exact ih _ _
theorem raw_append (l m : List UInt8) : ∀ a b : Nat, raw a b (l ++ m) = raw (raw a b l).1 (raw a b l).2 m := by
  induction l with
  | nil => intro a b; rfl
  | cons c l ih => intro a b; simp only [List.cons_append, raw]; exact ih _ _
theorem adl_bd (l : List UInt8) : ∀ a b : Nat, a ≤ 65520 → b ≤ 65520 → (adl a b l).1 ≤ 65520 ∧ (adl a b l).2 ≤ 65520 := by
  induction l with
  | nil => intro a b ha hb; exact ⟨ha, hb⟩
  | cons c l ih => intro a b ha hb; exact ih _ _ (by omega) (by omega)
theorem raw_bd (l : List UInt8) : ∀ a b : Nat, (raw a b l).1 ≤ a + 255 * l.length ∧ 2 * (raw a b l).2 ≤ 2 * b + 2 * (l.length * a) + 255 * (l.length * (l.length + 1)) := by
  induction l with
  | nil => intro a b; simp [raw]
  | cons c l ih =>
    intro a b
    have hc : c.toNat ≤ 255 := by have := c.toNat_lt; omega
    obtain ⟨h1, h2⟩ := ih (a + c.toNat) (b + (a + c.toNat))
    simp only [raw, List.length_cons]
    refine ⟨by omega, Nat.le_trans h2 ?_⟩
    generalize l.length = n at *
    have e1 : n * (a + c.toNat) ≤ n * a + 255 * n := by
      rw [Nat.mul_add]; have := Nat.mul_le_mul_left n hc; omega
    have e2 : (n + 1) * a = n * a + a := Nat.succ_mul n a
    have e3 : (n + 1) * (n + 1 + 1) = n * (n + 1) + 2 * n + 2 := by
      rw [Nat.mul_comm n (n + 1)]; rw [Nat.mul_add (n + 1) (n + 1) 1, Nat.mul_add (n + 1) n 1]; omega
    rw [e2, e3]; omega
/-- of a run of at most 5552 bytes both sums stay below 2^32 -/
theorem raw_fit (l : List UInt8) (a b : Nat) (ha : a ≤ 65520) (hb : b ≤ 65520) (hl : l.length ≤ 5552) : (raw a b l).1 ≤ 4294967295 ∧ (raw a b l).2 ≤ 4294967295 := by
  obtain ⟨h1, h2⟩ := raw_bd l a b
  have e1 : l.length * a ≤ 5552 * 65520 := Nat.mul_le_mul hl ha
  have e2 : l.length * (l.length + 1) ≤ 5552 * 5553 := Nat.mul_le_mul hl (by omega)
  omega
theorem adl_snoc (l : List UInt8) (c : UInt8) (a b : Nat) : adl a b (l ++ [c]) = (((adl a b l).1 + c.toNat) % 65521, ((adl a b l).2 + ((adl a b l).1 + c.toNat) % 65521) % 65521) := by
  rw [adl_append]; rfl
theorem raw_snoc (l : List UInt8) (c : UInt8) (a b : Nat) : raw a b (l ++ [c]) = ((raw a b l).1 + c.toNat, (raw a b l).2 + ((raw a b l).1 + c.toNat)) := by
  rw [raw_append]; rfl
end Go.Proofs.Ytephkcdbnogdhaa.Ad
