/- Plain arithmetic for the law Sums: the CRC of two texts added is the sum of both, one byte that is another one is told by both sums, and the Adler sum goes on by one byte. Nothing of the program is named here. -/
import Derived.Test.YtephkcdbnogdhaaDoorMath
import Derived.Test.YtephkcdbnogdhaaDoorCrcMath
namespace Go.Proofs.YtephkcdbnogdhaaDoor.Su
open Ad Cr
/-- two texts added, byte by byte -/
def mix (l m : List UInt8) : List UInt8 := List.zipWith (· ^^^ ·) l m
theorem mix_length (l m : List UInt8) (h : l.length = m.length) : (mix l m).length = l.length := by simp [mix]; omega
theorem xor_four (a b c d : Nat) : (a ^^^ b) ^^^ (c ^^^ d) = (a ^^^ c) ^^^ (b ^^^ d) := by
  rw [Nat.xor_assoc, ← Nat.xor_assoc b c d, Nat.xor_comm b c, Nat.xor_assoc c b d, ← Nat.xor_assoc]
theorem next_xor (c d : Nat) (a b : UInt8) : next (c ^^^ d) (a ^^^ b) = next c a ^^^ next d b := by
  unfold next
  rw [← steps_xor, UInt8.toNat_xor, xor_four]
theorem crc_mix (l : List UInt8) : ∀ (m : List UInt8) (c d : Nat), l.length = m.length → crc (c ^^^ d) (mix l m) = crc c l ^^^ crc d m := by
  induction l with
  | nil => intro m c d h; cases m with
    | nil => rfl
    | cons b m => cases h
  | cons a l ih => intro m c d h; cases m with
    | nil => cases h
    | cons b m =>
      show crc (c ^^^ d) ((a ^^^ b) :: mix l m) = _
      rw [crc_cons, crc_cons, crc_cons, next_xor]
      exact ih m _ _ (by simpa using h)
theorem mix_zero (l : List UInt8) : ∀ n, n = l.length → mix l (List.replicate n 0) = l := by
  induction l with
  | nil => intro n h; subst h; rfl
  | cons a l ih =>
    intro n h; subst h
    show (a ^^^ 0) :: mix l (List.replicate l.length 0) = _
    rw [ih _ rfl]; simp
/-- the sum that is handed out -/
def C (l : List UInt8) : Nat := 4294967295 - crc 4294967295 l
theorem crc_bd (l : List UInt8) : crc 4294967295 l < 4294967296 := crc_lt l 4294967295 (by decide)
theorem C_lt (l : List UInt8) : C l < 4294967296 := by unfold C; omega
theorem C_eq (l : List UInt8) : C l = 4294967295 ^^^ crc 4294967295 l := by
  have h := turn_over (crc 4294967295 l) (crc_bd l)
  exact h.symm
theorem C_xor (l m : List UInt8) (h : l.length = m.length) : C l ^^^ C m = crc 0 (mix l m) := by
  rw [C_eq, C_eq, xor_four, Nat.xor_self, Nat.zero_xor, ← crc_mix l m _ _ h, Nat.xor_self]
theorem linear (l m : List UInt8) (h : l.length = m.length) : C l ^^^ C m = C (mix l m) ^^^ C (List.replicate l.length 0) := by
  rw [C_xor l m h, C_xor _ _ (by rw [mix_length l m h]; simp), mix_zero _ _ (mix_length l m h).symm]
theorem step_zero (x : Nat) (h : x < 4294967296) (e : step x = 0) : x = 0 := by
  unfold step at e
  split at e
  · have : x / 2 = 3988292384 := by
      have k := congrArg (· ^^^ 3988292384) e
      rw [Nat.xor_assoc, Nat.xor_self, Nat.xor_zero, Nat.zero_xor] at k
      exact k
    omega
  · omega
theorem step_inj (a b : Nat) (ha : a < 4294967296) (hb : b < 4294967296) (e : step a = step b) : a = b := by
  have h : step (a ^^^ b) = 0 := by rw [step_xor, e, Nat.xor_self]
  have k := step_zero _ (Nat.xor_lt_two_pow (n := 32) ha hb) h
  have := congrArg (· ^^^ b) k
  rwa [Nat.xor_assoc, Nat.xor_self, Nat.xor_zero, Nat.zero_xor] at this
theorem steps_inj (n : Nat) : ∀ a b, a < 4294967296 → b < 4294967296 → steps n a = steps n b → a = b := by
  induction n with
  | zero => intro a b _ _ e; exact e
  | succ n ih => intro a b ha hb e; exact step_inj a b ha hb (ih _ _ (step_lt a ha) (step_lt b hb) e)
theorem xor_cancel (a b c : Nat) (e : a ^^^ b = a ^^^ c) : b = c := by
  have := congrArg (a ^^^ ·) e
  rwa [← Nat.xor_assoc, ← Nat.xor_assoc, Nat.xor_self, Nat.zero_xor, Nat.zero_xor] at this
theorem next_inj (c d : Nat) (b : UInt8) (hc : c < 4294967296) (hd : d < 4294967296) (e : next c b = next d b) : c = d := by
  have h := steps_inj 8 _ _ (xor_byte_lt c b hc) (xor_byte_lt d b hd) e
  rw [Nat.xor_comm c, Nat.xor_comm d] at h
  exact xor_cancel _ _ _ h
theorem next_inj2 (c : Nat) (a b : UInt8) (hc : c < 4294967296) (e : next c a = next c b) : a = b := by
  have h := steps_inj 8 _ _ (xor_byte_lt c a hc) (xor_byte_lt c b hc) e
  exact UInt8.toNat_inj.1 (xor_cancel _ _ _ h)
theorem crc_inj (l : List UInt8) : ∀ c d, c < 4294967296 → d < 4294967296 → crc c l = crc d l → c = d := by
  induction l with
  | nil => intro c d _ _ e; exact e
  | cons b l ih =>
    intro c d hc hd e
    rw [crc_cons, crc_cons] at e
    exact next_inj c d b hc hd (ih _ _ (next_lt c b hc) (next_lt d b hd) e)
/-- one byte that is another one -/
theorem set_split (l : List UInt8) (i : Nat) (hi : i < l.length) (b : UInt8) : l = l.take i ++ l[i] :: l.drop (i + 1) ∧ l.set i b = l.take i ++ b :: l.drop (i + 1) := by
  refine ⟨?_, List.set_eq_take_append_cons_drop.trans (if_pos hi)⟩
  conv => lhs; rw [← List.take_append_drop i l, List.drop_eq_getElem_cons hi]
theorem C_told (l : List UInt8) (i : Nat) (hi : i < l.length) (b : UInt8) (hb : b ≠ l[i]) : C (l.set i b) ≠ C l := by
  obtain ⟨e1, e2⟩ := set_split l i hi b
  intro e
  have k : crc 4294967295 (l.set i b) = crc 4294967295 l := by
    have h1 := crc_bd (l.set i b)
    have h2 := crc_bd l
    unfold C at e
    omega
  rw [e2] at k
  conv at k => rhs; rw [e1]
  rw [crc_append, crc_append, crc_cons, crc_cons] at k
  have hp := crc_bd (l.take i)
  have h := crc_inj _ _ _ (next_lt _ _ hp) (next_lt _ _ hp) k
  exact hb (next_inj2 _ _ _ hp h)
/-- the Adler sum that is handed out -/
def A (l : List UInt8) : Nat := 65536 * (adl 1 0 l).2 + (adl 1 0 l).1
theorem A_bd (l : List UInt8) : (adl 1 0 l).1 ≤ 65520 ∧ (adl 1 0 l).2 ≤ 65520 := adl_bd l 1 0 (by omega) (by omega)
def tot (l : List UInt8) : Nat := (l.map (·.toNat)).sum
theorem raw_one (l : List UInt8) : ∀ a b, (raw a b l).1 = a + tot l := by
  induction l with
  | nil => intro a b; rfl
  | cons c l ih => intro a b; simp only [raw, ih]; unfold tot; simp only [List.map_cons, List.sum_cons]; omega
theorem adl_one (l : List UInt8) : (adl 1 0 l).1 = (1 + tot l) % 65521 := by
  rw [adl_raw' l 1 0 (by omega) (by omega), raw_one]
theorem tot_app (l m : List UInt8) : tot (l ++ m) = tot l + tot m := by unfold tot; simp
theorem tot_cons (b : UInt8) (l : List UInt8) : tot (b :: l) = b.toNat + tot l := by unfold tot; simp
theorem A_told (l : List UInt8) (i : Nat) (hi : i < l.length) (b : UInt8) (hb : b ≠ l[i]) : A (l.set i b) ≠ A l := by
  obtain ⟨e1, e2⟩ := set_split l i hi b
  intro e
  have h1 := A_bd (l.set i b)
  have h2 := A_bd l
  have k : (adl 1 0 (l.set i b)).1 = (adl 1 0 l).1 := by unfold A at e; omega
  rw [adl_one, adl_one, e2] at k
  conv at k => rhs; rw [e1]
  rw [tot_app, tot_app, tot_cons, tot_cons] at k
  have hb1 := b.toNat_lt
  have hb2 := (l[i]).toNat_lt
  have : b.toNat = (l[i]).toNat := by omega
  exact hb (UInt8.toNat_inj.1 this)
/-- one byte more, out of the sum itself -/
theorem A_on (l : List UInt8) (x : UInt8) : A (l ++ [x]) = 65536 * ((A l / 65536 + (A l % 65536 + x.toNat) % 65521) % 65521) + (A l % 65536 + x.toNat) % 65521 := by
  have h := A_bd l
  have e1 : A l / 65536 = (adl 1 0 l).2 := by unfold A; omega
  have e2 : A l % 65536 = (adl 1 0 l).1 := by unfold A; omega
  rw [e1, e2]
  unfold A
  rw [adl_snoc]
theorem A_lt (l : List UInt8) : A l < 4294967296 := by have := A_bd l; unfold A; omega
end Go.Proofs.YtephkcdbnogdhaaDoor.Su
