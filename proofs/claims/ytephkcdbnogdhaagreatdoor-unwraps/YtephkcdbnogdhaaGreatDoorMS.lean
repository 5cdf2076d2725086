/- Plain arithmetic of the Adler sum: the two running sums, with and without the modulo at each byte. Nothing of the program is named here. -/
import Derived.Test.YtephkcdbnogdhaaGreatDoorRows
import Derived.WalkKit
import Derived.Laws.BitsAllLaws
set_option linter.unusedVariables false
namespace Go.Proofs.YtephkcdbnogdhaaGreatDoor.Ad
/-- both sums, nothing taken modulo -/
def raw : Nat → Nat → List UInt8 → Nat × Nat
  | a, b, [] => (a, b)
  | a, b, c :: l => raw (a + c.toNat) (b + (a + c.toNat)) l
/-- both sums, modulo 65521 at each byte -/
def adl : Nat → Nat → List UInt8 → Nat × Nat
  | a, b, [] => (a, b)
  | a, b, c :: l => adl ((a + c.toNat) % 65521) ((b + (a + c.toNat) % 65521) % 65521) l
theorem adl_raw (l : List UInt8) : ∀ a b : Nat, adl (a % 65521) (b % 65521) l = ((raw a b l).1 % 65521, (raw a b l).2 % 65521) := by
  induction l with
  | nil => intro a b; rfl
  | cons c l ih =>
    intro a b
    simp only [adl, raw]
    rw [← ih]
    have h1 : (a % 65521 + c.toNat) % 65521 = (a + c.toNat) % 65521 := by omega
    have h2 : (b % 65521 + (a % 65521 + c.toNat) % 65521) % 65521 = (b + (a + c.toNat)) % 65521 := by omega
    rw [h1] at h2 ⊢
    rw [h2]
theorem adl_raw' (l : List UInt8) (a b : Nat) (ha : a ≤ 65520) (hb : b ≤ 65520) : adl a b l = ((raw a b l).1 % 65521, (raw a b l).2 % 65521) := by
  have h := adl_raw l a b
  rwa [Nat.mod_eq_of_lt (a := a) (by omega), Nat.mod_eq_of_lt (a := b) (by omega)] at h
theorem adl_append (l m : List UInt8) : ∀ a b : Nat, adl a b (l ++ m) = adl (adl a b l).1 (adl a b l).2 m := by
  induction l with
  | nil => intro a b; rfl
  | cons c l ih => intro a b; simp only [List.cons_append, adl]; exact ih _ _
theorem raw_append (l m : List UInt8) : ∀ a b : Nat, raw a b (l ++ m) = raw (raw a b l).1 (raw a b l).2 m := by
  induction l with
  | nil => intro a b; rfl
  | cons c l ih => intro a b; simp only [List.cons_append, raw]; exact ih _ _
theorem adl_bd (l : List UInt8) : ∀ a b : Nat, a ≤ 65520 → b ≤ 65520 → (adl a b l).1 ≤ 65520 ∧ (adl a b l).2 ≤ 65520 := by
  induction l with
  | nil => intro a b ha hb; exact ⟨ha, hb⟩
  | cons c l ih => intro a b ha hb; exact ih _ _ (by omega) (by omega)
theorem raw_bd (l : List UInt8) : ∀ a b : Nat, (raw a b l).1 ≤ a + 255 * l.length ∧ 2 * (raw a b l).2 ≤ 2 * b + 2 * (l.length * a) + 255 * (l.length * (l.length + 1)) := by
  induction l with
  | nil => intro a b; simp [raw]
  | cons c l ih =>
    intro a b
    have hc : c.toNat ≤ 255 := by have := c.toNat_lt; omega
    obtain ⟨h1, h2⟩ := ih (a + c.toNat) (b + (a + c.toNat))
    simp only [raw, List.length_cons]
    refine ⟨by omega, Nat.le_trans h2 ?_⟩
    generalize l.length = n at *
    have e1 : n * (a + c.toNat) ≤ n * a + 255 * n := by
      rw [Nat.mul_add]; have := Nat.mul_le_mul_left n hc; omega
    have e2 : (n + 1) * a = n * a + a := Nat.succ_mul n a
    have e3 : (n + 1) * (n + 1 + 1) = n * (n + 1) + 2 * n + 2 := by
      rw [Nat.mul_comm n (n + 1)]; rw [Nat.mul_add (n + 1) (n + 1) 1, Nat.mul_add (n + 1) n 1]; omega
    rw [e2, e3]; omega
/-- of a run of at most 5552 bytes both sums stay below 2^32 -/
theorem raw_fit (l : List UInt8) (a b : Nat) (ha : a ≤ 65520) (hb : b ≤ 65520) (hl : l.length ≤ 5552) : (raw a b l).1 ≤ 4294967295 ∧ (raw a b l).2 ≤ 4294967295 := by
  obtain ⟨h1, h2⟩ := raw_bd l a b
  have e1 : l.length * a ≤ 5552 * 65520 := Nat.mul_le_mul hl ha
  have e2 : l.length * (l.length + 1) ≤ 5552 * 5553 := Nat.mul_le_mul hl (by omega)
  omega
theorem adl_snoc (l : List UInt8) (c : UInt8) (a b : Nat) : adl a b (l ++ [c]) = (((adl a b l).1 + c.toNat) % 65521, ((adl a b l).2 + ((adl a b l).1 + c.toNat) % 65521) % 65521) := by
  rw [adl_append]; rfl
theorem raw_snoc (l : List UInt8) (c : UInt8) (a b : Nat) : raw a b (l ++ [c]) = ((raw a b l).1 + c.toNat, (raw a b l).2 + ((raw a b l).1 + c.toNat)) := by
  rw [raw_append]; rfl
end Go.Proofs.YtephkcdbnogdhaaGreatDoor.Ad
/- The walks of the Adler sum: what running.Adler's Add returns. -/
namespace Go.Proofs.YtephkcdbnogdhaaGreatDoor.AdW
open Go.RowKit Ad
theorem take_snoc (s : ByteArray) (k : Nat) (h : k < s.size) : s.data.toList.take (k + 1) = s.data.toList.take k ++ [s[k]] := by
  rw [List.take_succ_eq_append_getElem (by simpa using h)]; rfl
theorem adl_step (s : ByteArray) (k : Nat) (h : k < s.size) (a b : Nat) : adl a b (s.data.toList.take (k + 1)) = (((adl a b (s.data.toList.take k)).1 + s[k].toNat) % 65521, ((adl a b (s.data.toList.take k)).2 + ((adl a b (s.data.toList.take k)).1 + s[k].toNat) % 65521) % 65521) := by
  rw [take_snoc s k h, adl_snoc]
theorem ret_int {k : IntKind} {a b : Int} (h : a = b) : Ending.returned (.int k a) = .returned (.int k b) := by rw [h]
theorem val_int {k : IntKind} {a b : Int} (h : a = b) : Value.int k a = .int k b := by rw [h]
theorem take_all (s : ByteArray) (k : Nat) (h : ¬ k < s.size) : s.data.toList.take k = s.data.toList := List.take_of_length_le (by simp; omega)
theorem or_sum (x y : Nat) (hx : x ≤ 65520) (hy : y ≤ 65520) : bits BinOp.or IntKind.u32 ((y : Int) * 65536) (x : Int) = ((65536 * y + x : Nat) : Int) := by
  have h := u32_or_nat (y * 65536) x (by omega) (by omega)
  have e : y * 65536 ||| x = 65536 * y + x := by
    rw [Nat.mul_comm y]; exact (Nat.two_pow_add_eq_or_of_lt (i := 16) (by omega) y).symm
  rw [e] at h
  rw [← h]; congr 1
theorem and_low (v : Nat) (h : v < 4294967296) : bits BinOp.and IntKind.u32 (v : Int) 65535 = ((v % 65536 : Nat) : Int) := by
  have h := u32_and_nat v 65535 h (by omega)
  have e : v &&& 65535 = v % 65536 := Nat.and_two_pow_sub_one_eq_mod v 16
  rw [e] at h
  exact h
/-- a sum by one byte more, both halves in one number -/
def addT (v c : Nat) : Nat := 65536 * ((v / 65536 + (v % 65536 + c) % 65521) % 65521) + (v % 65536 + c) % 65521
/-- both sums in one number -/
def one (p : Nat × Nat) : Nat := 65536 * p.2 + p.1
theorem one_lo (p : Nat × Nat) (h : p.1 ≤ 65520) : one p % 65536 = p.1 := by unfold one; omega
theorem one_hi (p : Nat × Nat) (h : p.1 ≤ 65520) : one p / 65536 = p.2 := by unfold one; omega
theorem adl_one (s : ByteArray) (k : Nat) (h : k < s.size) : one (adl 1 0 (s.data.toList.take (k + 1))) = addT (one (adl 1 0 (s.data.toList.take k))) s[k].toNat := by
  have hb := adl_bd (s.data.toList.take k) 1 0 (by omega) (by omega)
  rw [adl_step s k h]
  unfold addT
  rw [one_lo _ hb.1, one_hi _ hb.1]
  rfl
theorem addT_parts (v c : Nat) (h1 : v % 65536 ≤ 65520) (h2 : v / 65536 ≤ 65520) (hc : c ≤ 255) : ∃ x y t p z q : Nat, addT v c = 65536 * q + p ∧ v < 4294967296 ∧ v % 65536 = x ∧ (v : Int) / 65536 = (y : Int) ∧ (x : Int) + (c : Int) = (t : Int) ∧ (y : Int) + (p : Int) = (z : Int) ∧ t ≤ 70000 ∧ z ≤ 140000 ∧ p ≤ 65520 ∧ q ≤ 65520 ∧
    (decide ((65521 : Int) ≤ (t : Int)) = false ∧ p = t ∨ (decide ((65521 : Int) ≤ (t : Int)) = true ∧ 65521 ≤ t) ∧ (t : Int) - 65521 = (p : Int)) ∧ (decide ((65521 : Int) ≤ (z : Int)) = false ∧ q = z ∨ (decide ((65521 : Int) ≤ (z : Int)) = true ∧ 65521 ≤ z) ∧ (z : Int) - 65521 = (q : Int)) := by
  refine ⟨v % 65536, v / 65536, v % 65536 + c, (v % 65536 + c) % 65521, v / 65536 + (v % 65536 + c) % 65521, (v / 65536 + (v % 65536 + c) % 65521) % 65521, rfl, by omega, rfl, by omega, by omega, by omega, by omega, by omega, by omega, by omega, ?_, ?_⟩
  · by_cases h : v % 65536 + c < 65521
    · exact .inl ⟨decide_eq_false (by omega), by omega⟩
    · exact .inr ⟨⟨decide_eq_true (by omega), by omega⟩, by omega⟩
  · by_cases h : v / 65536 + (v % 65536 + c) % 65521 < 65521
    · exact .inl ⟨decide_eq_false (by omega), by omega⟩
    · exact .inr ⟨⟨decide_eq_true (by omega), by omega⟩, by omega⟩
set_option maxRecDepth 10000 in
set_option maxHeartbeats 1000000 in
theorem add_any (V c : Nat) (w : World) (h1 : V % 65536 ≤ 65520) (h2 : V / 65536 ≤ 65520) (hc : c ≤ 255) :
    Calls Tryz.prog 102 #[.int .u32 (V : Int), .int .u8 (c : Int)] w fun e w' => e = .returned (.int .u32 ((addT V c : Nat) : Int)) ∧ w' = w := by
  obtain ⟨x, y, t, p, z, q, e0, e1, e2, e3, e4, e5, e6, e7, e8, e9, e10, e11⟩ := addT_parts V c h1 h2 hc
  rw [e0]
  have ha : bits BinOp.and IntKind.u32 (V : Int) 65535 = (x : Int) := by rw [and_low V e1, e2]
  have ho := or_sum p q e8 e9
  clear e0 e2 h1 h2
  rcases e10 with ⟨h1, rfl⟩ | ⟨⟨h1, h1b⟩, ep⟩
  · rcases e11 with ⟨h2, rfl⟩ | ⟨⟨h2, h2b⟩, eq⟩
    · go_enter Tryz.func102, Tryz.ntmps102
      go_wp2
      go_ret
      exact ⟨rfl, rfl⟩
    · go_enter Tryz.func102, Tryz.ntmps102
      go_wp2
      go_ret
      exact ⟨rfl, rfl⟩
  · rcases e11 with ⟨h2, rfl⟩ | ⟨⟨h2, h2b⟩, eq⟩
    · go_enter Tryz.func102, Tryz.ntmps102
      go_wp2
      go_ret
      exact ⟨rfl, rfl⟩
    · go_enter Tryz.func102, Tryz.ntmps102
      go_wp2
      go_ret
      exact ⟨rfl, rfl⟩
end Go.Proofs.YtephkcdbnogdhaaGreatDoor.AdW
/- The walk of the document's Adler sum: what vellumref.Adler returns. -/
namespace Go.Proofs.YtephkcdbnogdhaaGreatDoor.AdW
open Go.RowKit Ad
set_option maxHeartbeats 400000 in
theorem ref_any (s : ByteArray) (w : World) (hs : s.size ≤ maxLen) :
    Calls Tryz.prog 47 #[.string s] w fun e w' => e = .returned (.int .u32 ((65536 * (adl 1 0 s.data.toList).2 + (adl 1 0 s.data.toList).1 : Nat) : Int)) ∧ w' = w := by
  unfold maxLen at hs
  go_enter Tryz.func47, Tryz.ntmps47
  go_wp2
  go_loop [3, 4, 5] (fun a b i => ∃ k : Nat, k ≤ s.size ∧ i = .int .i64 k ∧ a = .int .i64 ((adl 1 0 (s.data.toList.take k)).1 : Nat) ∧ b = .int .i64 ((adl 1 0 (s.data.toList.take k)).2 : Nat)) (fun _ _ i => s.size - (intOf i).toNat)
  case atStart => exact ⟨0, Nat.zero_le _, rfl, rfl, rfl⟩
  case round =>
    obtain ⟨k, hk, rfl, rfl, rfl⟩ := hrel
    obtain ⟨hb1, hb2⟩ := adl_bd (s.data.toList.take k) 1 0 (by omega) (by omega)
    by_cases hlt : k < s.size
    · have hc : s[k].toNat ≤ 255 := by have := s[k].toNat_lt; omega
      go_wp2
      go_round
      case rel => exact ⟨k + 1, by omega, by go_num, by rw [adl_step s k hlt]; go_num, by rw [adl_step s k hlt]; go_num⟩
      case measure => simp [intOf]; omega
    · rw [take_all s k hlt] at hb1 hb2 ⊢
      go_wp2
      go_ret
      exact ⟨ret_int (by omega), rfl⟩
end Go.Proofs.YtephkcdbnogdhaaGreatDoor.AdW
