/- Plain arithmetic of the CRC sum: one bit at a time, four bits at a time by a table, and what the sum tells apart. Nothing of the program is named here. -/
namespace Go.Proofs.YtephkcdbnogdhaaDoor.Cr
/-- one step of the division: the lowest bit goes out; was it 1, the polynomial is added -/
def step (c : Nat) : Nat := if c % 2 = 1 then (c / 2) ^^^ 3988292384 else c / 2
/-- the same, a bit of the text added ahead -/
def stepb (c b : Nat) : Nat := if c % 2 = b then c / 2 else (c / 2) ^^^ 3988292384
def steps : Nat → Nat → Nat
  | 0, c => c
  | n + 1, c => steps n (step c)
/-- k steps with the lowest k bits of y -/
def stepsb : Nat → Nat → Nat → Nat
  | 0, c, _ => c
  | n + 1, c, y => stepsb n (stepb c (y % 2)) (y / 2)
theorem xor_mod2 (a b : Nat) : (a ^^^ b) % 2 = (a % 2 + b % 2) % 2 := by
  have h := @Nat.xor_mod_two_pow a b 1
  simp only [Nat.pow_one] at h
  rw [h]
  rcases Nat.mod_two_eq_zero_or_one a with ha | ha <;> rcases Nat.mod_two_eq_zero_or_one b with hb | hb <;> rw [ha, hb] <;> rfl
theorem xor_div2 (a b : Nat) : (a ^^^ b) / 2 = (a / 2) ^^^ (b / 2) := by
  have h := @Nat.xor_div_two_pow a b 1
  simpa using h
theorem xor_swap (a b p : Nat) : (a ^^^ p) ^^^ (b ^^^ p) = a ^^^ b := by
  rw [Nat.xor_comm b p, Nat.xor_assoc, ← Nat.xor_assoc p p b, Nat.xor_self, Nat.zero_xor]
theorem xor_lr (a b p : Nat) : (a ^^^ p) ^^^ b = (a ^^^ b) ^^^ p := by
  rw [Nat.xor_assoc, Nat.xor_comm p b, ← Nat.xor_assoc]
theorem step_xor (a b : Nat) : step (a ^^^ b) = step a ^^^ step b := by
  unfold step
  rw [xor_mod2, xor_div2]
  rcases Nat.mod_two_eq_zero_or_one a with ha | ha <;> rcases Nat.mod_two_eq_zero_or_one b with hb | hb <;> rw [ha, hb] <;> simp
  · rw [Nat.xor_assoc]
  · rw [xor_lr]
  · rw [xor_swap]
theorem steps_xor (n : Nat) : ∀ a b : Nat, steps n (a ^^^ b) = steps n a ^^^ steps n b := by
  induction n with
  | zero => intro a b; rfl
  | succ n ih => intro a b; simp only [steps]; rw [step_xor, ih]
theorem step_two (a : Nat) : step (2 * a) = a := by
  unfold step; rw [if_neg (by omega)]; omega
theorem steps_pow (n : Nat) : ∀ a : Nat, steps n (2 ^ n * a) = a := by
  induction n with
  | zero => intro a; simp [steps]
  | succ n ih =>
    intro a
    simp only [steps]
    rw [Nat.pow_succ, Nat.mul_comm (2 ^ n) 2, Nat.mul_assoc, step_two, ih]
theorem split_pow (n c : Nat) : c = (2 ^ n * (c / 2 ^ n)) ^^^ (c % 2 ^ n) := by
  have h := Nat.two_pow_add_eq_or_of_lt (i := n) (Nat.mod_lt c (Nat.two_pow_pos n)) (c / 2 ^ n)
  have e : 2 ^ n * (c / 2 ^ n) ||| c % 2 ^ n = 2 ^ n * (c / 2 ^ n) ^^^ c % 2 ^ n := by
    apply Nat.eq_of_testBit_eq
    intro i
    rw [Nat.testBit_or, Nat.testBit_xor, Nat.testBit_two_pow_mul, Nat.testBit_mod_two_pow]
    by_cases hi : i < n
    · have : ¬ n ≤ i := by omega
      simp [this]
    · simp [hi]
  rw [← e, ← h]
  exact (Nat.div_add_mod c (2 ^ n)).symm
/-- four bits at a time: what is left, and the table's entry of the lowest four -/
theorem steps_four (c : Nat) : steps 4 c = (c / 16) ^^^ steps 4 (c % 16) := by
  have h := split_pow 4 c
  have e := steps_xor 4 (2 ^ 4 * (c / 2 ^ 4)) (c % 2 ^ 4)
  rw [← h, steps_pow] at e
  exact e
theorem steps_add (m n : Nat) : ∀ c, steps (m + n) c = steps n (steps m c) := by
  induction m with
  | zero => intro c; simp [steps]
  | succ m ih => intro c; rw [Nat.succ_add]; simp only [steps]; exact ih _
/-- a bit that is added ahead of the step -/
theorem stepb_eq (c b : Nat) (hb : b ≤ 1) : stepb c b = step (c ^^^ b) := by
  unfold stepb step
  have h0 : b = 0 ∨ b = 1 := by omega
  rcases h0 with rfl | rfl
  · rw [Nat.xor_zero]
    rcases Nat.mod_two_eq_zero_or_one c with h | h <;> simp [h]
  · rw [xor_mod2, xor_div2]
    rcases Nat.mod_two_eq_zero_or_one c with h | h <;> simp [h]
theorem stepsb_eq (n : Nat) : ∀ c y : Nat, steps n (c ^^^ y) = stepsb n c y ^^^ (y / 2 ^ n) := by
  induction n with
  | zero => intro c y; simp [steps, stepsb]
  | succ n ih =>
    intro c y
    simp only [steps, stepsb]
    have hy : y = (2 * (y / 2)) ^^^ (y % 2) := by have := split_pow 1 y; simpa using this
    have e : step (c ^^^ y) = stepb c (y % 2) ^^^ (y / 2) := by
      rw [stepb_eq c _ (by omega)]
      have : c ^^^ y = (c ^^^ (y % 2)) ^^^ (2 * (y / 2)) := by
        rw [Nat.xor_assoc, Nat.xor_comm (y % 2), ← hy]
      rw [this, step_xor, step_two]
    rw [e, ih, Nat.div_div_eq_div_mul, Nat.pow_succ, Nat.mul_comm (2 ^ n) 2]
theorem stepsb_byte (c y : Nat) (hy : y < 256) : stepsb 8 c y = steps 8 (c ^^^ y) := by
  have h := stepsb_eq 8 c y
  rw [Nat.div_eq_of_lt (show y < 2 ^ 8 from hy), Nat.xor_zero] at h
  exact h.symm
/-- one byte -/
def next (c : Nat) (b : UInt8) : Nat := steps 8 (c ^^^ b.toNat)
/-- the sum's state behind a text -/
def crc (c : Nat) (l : List UInt8) : Nat := l.foldl next c
theorem crc_nil (c : Nat) : crc c [] = c := rfl
theorem crc_cons (c : Nat) (b : UInt8) (l : List UInt8) : crc c (b :: l) = crc (next c b) l := rfl
theorem crc_append (l m : List UInt8) (c : Nat) : crc c (l ++ m) = crc (crc c l) m := List.foldl_append
theorem crc_snoc (l : List UInt8) (b : UInt8) (c : Nat) : crc c (l ++ [b]) = next (crc c l) b := by
  rw [crc_append, crc_cons, crc_nil]
theorem step_lt (c : Nat) (h : c < 4294967296) : step c < 4294967296 := by
  unfold step
  split
  · exact Nat.xor_lt_two_pow (n := 32) (by omega) (by omega)
  · omega
theorem steps_lt (n : Nat) : ∀ c, c < 4294967296 → steps n c < 4294967296 := by
  induction n with
  | zero => intro c h; exact h
  | succ n ih => intro c h; exact ih _ (step_lt c h)
theorem xor_byte_lt (c : Nat) (b : UInt8) (h : c < 4294967296) : c ^^^ b.toNat < 4294967296 :=
  Nat.xor_lt_two_pow (n := 32) h (by have := b.toNat_lt; omega)
theorem next_lt (c : Nat) (b : UInt8) (h : c < 4294967296) : next c b < 4294967296 := steps_lt 8 _ (xor_byte_lt c b h)
theorem crc_lt (l : List UInt8) : ∀ c, c < 4294967296 → crc c l < 4294967296 := by
  induction l with
  | nil => intro c h; exact h
  | cons b l ih => intro c h; rw [crc_cons]; exact ih _ (next_lt c b h)
theorem stepsb_lt (n : Nat) : ∀ c y, c < 4294967296 → stepsb n c y < 4294967296 := by
  induction n with
  | zero => intro c y h; exact h
  | succ n ih => intro c y h; simp only [stepsb]; refine ih _ _ ?_; rw [stepb_eq c _ (by omega)]; exact step_lt _ (Nat.xor_lt_two_pow (n := 32) h (by omega))
/-- one bit more behind k bits -/
theorem stepsb_succ (n : Nat) : ∀ c y, stepsb (n + 1) c y = stepb (stepsb n c y) (y / 2 ^ n % 2) := by
  induction n with
  | zero => intro c y; simp [stepsb]
  | succ n ih =>
    intro c y
    show stepsb (n + 1) (stepb c (y % 2)) (y / 2) = stepb (stepsb n (stepb c (y % 2)) (y / 2)) _
    rw [ih, Nat.div_div_eq_div_mul, Nat.pow_succ, Nat.mul_comm (2 ^ n) 2]
/-- bit k of a number -/
def bitAt (v k : Nat) : Nat := v / 2 ^ k % 2
theorem bitAt_le (v k : Nat) : bitAt v k ≤ 1 := by unfold bitAt; omega
theorem bitAt_of (v k y : Nat) (h : y = v / 2 ^ k) : bitAt v k = y % 2 := by unfold bitAt; rw [h]
theorem stepsb_more (k c y : Nat) : stepsb (k + 1) c y = if stepsb k c y % 2 = bitAt y k then stepsb k c y / 2 else (stepsb k c y / 2) ^^^ 3988292384 := stepsb_succ k c y
theorem next_eq (c : Nat) (b : UInt8) : next c b = stepsb 8 c b.toNat := (stepsb_byte c b.toNat b.toNat_lt).symm
theorem turn_over (c : Nat) (h : c < 4294967296) : 4294967295 ^^^ c = 4294967295 - c := by
  apply Nat.eq_of_testBit_eq
  intro i
  have e := Nat.testBit_two_pow_sub_succ (n := 32) (x := c) h i
  have f := Nat.testBit_two_pow_sub_one 32 i
  rw [show (4294967295 : Nat) - c = 2 ^ 32 - (c + 1) by omega, Nat.testBit_xor, e, show (4294967295 : Nat) = 2 ^ 32 - 1 by omega, f]
  by_cases hi : i < 32
  · simp [hi]
  · have : c.testBit i = false := Nat.testBit_lt_two_pow (Nat.lt_of_lt_of_le h (Nat.pow_le_pow_right (n := 2) (by omega) (show 32 ≤ i by omega)))
    simp [hi, this]
theorem xor_bit (a b k : Nat) : (a ^^^ b) / 2 ^ k % 2 = (a / 2 ^ k + b / 2 ^ k) % 2 := by
  rw [Nat.xor_div_two_pow, xor_mod2]; omega
/-- one bit more of the sum of two numbers -/
theorem xor_more (a b k : Nat) : (a ^^^ b) % 2 ^ (k + 1) = (a ^^^ b) % 2 ^ k + (a / 2 ^ k + b / 2 ^ k) % 2 * 2 ^ k := by
  rw [Nat.mod_pow_succ, xor_bit, Nat.mul_comm]
theorem half_more (a k : Nat) : a / 2 ^ (k + 1) = a / 2 ^ k / 2 := by
  rw [Nat.div_div_eq_div_mul, Nat.pow_succ]
end Go.Proofs.YtephkcdbnogdhaaDoor.Cr
