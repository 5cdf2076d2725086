/- Bits that are written are read again: bytes made of bits; codes by the fixed lengths. -/
import Derived.Test.YtephkcdbnogdhaaGreatDoorMA
import Derived.Test.YtephkcdbnogdhaaGreatDoorMH
import Derived.Test.YtephkcdbnogdhaaGreatDoorME
set_option linter.unusedVariables false
namespace Go.Proofs.YtephkcdbnogdhaaGreatDoor.Rf
/-- bit i of a row of bits -/
def at0 (B : List Nat) (i : Nat) : Nat := B.getD i 0
def B01 (B : List Nat) : Prop := ∀ x ∈ B, x ≤ 1
theorem at0_le {B : List Nat} (h : B01 B) (i : Nat) : at0 B i ≤ 1 := getD_le B 1 h i
theorem B01.append {A B : List Nat} (h : B01 A) (k : B01 B) : B01 (A ++ B) := fun x hx => (List.mem_append.1 hx).elim (h x) (k x)
/-- byte k of a row of bits -/
def byteOf (B : List Nat) (k : Nat) : Nat := at0 B (8 * k) + 2 * at0 B (8 * k + 1) + 4 * at0 B (8 * k + 2) + 8 * at0 B (8 * k + 3) + 16 * at0 B (8 * k + 4) + 32 * at0 B (8 * k + 5) + 64 * at0 B (8 * k + 6) + 128 * at0 B (8 * k + 7)
theorem byteOf_lt {B : List Nat} (h : B01 B) (k : Nat) : byteOf B k ≤ 255 := by
  have h0 := at0_le h (8 * k)
  have h1 := at0_le h (8 * k + 1)
  have h2 := at0_le h (8 * k + 2)
  have h3 := at0_le h (8 * k + 3)
  have h4 := at0_le h (8 * k + 4)
  have h5 := at0_le h (8 * k + 5)
  have h6 := at0_le h (8 * k + 6)
  have h7 := at0_le h (8 * k + 7)
  unfold byteOf; omega
theorem byteOf_bit {B : List Nat} (h : B01 B) (k j : Nat) (hj : j < 8) : bitAt (byteOf B k) j = at0 B (8 * k + j) := by
  have h0 := at0_le h (8 * k)
  have h1 := at0_le h (8 * k + 1)
  have h2 := at0_le h (8 * k + 2)
  have h3 := at0_le h (8 * k + 3)
  have h4 := at0_le h (8 * k + 4)
  have h5 := at0_le h (8 * k + 5)
  have h6 := at0_le h (8 * k + 6)
  have h7 := at0_le h (8 * k + 7)
  unfold byteOf bitAt
  rcases (by omega : j = 0 ∨ j = 1 ∨ j = 2 ∨ j = 3 ∨ j = 4 ∨ j = 5 ∨ j = 6 ∨ j = 7) with rfl | rfl | rfl | rfl | rfl | rfl | rfl | rfl
  · simp only [Nat.pow_zero, Nat.div_one, Nat.add_zero]; omega
  · rw [show (2 : Nat) ^ 1 = 2 from rfl]; omega
  · rw [show (2 : Nat) ^ 2 = 4 from rfl]; omega
  · rw [show (2 : Nat) ^ 3 = 8 from rfl]; omega
  · rw [show (2 : Nat) ^ 4 = 16 from rfl]; omega
  · rw [show (2 : Nat) ^ 5 = 32 from rfl]; omega
  · rw [show (2 : Nat) ^ 6 = 64 from rfl]; omega
  · rw [show (2 : Nat) ^ 7 = 128 from rfl]; omega
/-- the bytes of a row of bits -/
def packB (B : List Nat) : List UInt8 := (List.range ((B.length + 7) / 8)).map fun k => UInt8.ofNat (byteOf B k)
theorem packB_len (B : List Nat) : (packB B).length = (B.length + 7) / 8 := by simp [packB]
theorem packB_get {B : List Nat} (h : B01 B) (k : Nat) (hk : k < (B.length + 7) / 8) : ((packB B).getD k 0).toNat = byteOf B k := by
  have := byteOf_lt h k
  simp [packB, List.getD_eq_getElem?_getD, hk]
  omega
/-- a text has these bits, as far as it goes -/
def HasBits (s : ByteArray) (B : List Nat) : Prop := ∀ p, p < B.length → p < 8 * s.size → bitP s p = at0 B p
theorem hasBits_pack {B : List Nat} (h : B01 B) (rest : List UInt8) : HasBits ⟨(packB B ++ rest).toArray⟩ B := by
  intro p hp _
  unfold bitP byteAt
  have hk : p / 8 < (packB B).length := by rw [packB_len]; omega
  have e : (packB B ++ rest).getD (p / 8) 0 = (packB B).getD (p / 8) 0 := by
    rw [List.getD_eq_getElem?_getD, List.getElem?_append_left hk, List.getD_eq_getElem?_getD]
  show bitAt ((packB B ++ rest).getD (p / 8) 0).toNat (p % 8) = _
  rw [e, packB_get h _ (by rw [packB_len] at hk; exact hk), byteOf_bit h _ _ (by omega), show 8 * (p / 8) + p % 8 = p by omega]
theorem hasBits_cut {B : List Nat} (h : B01 B) (n : Nat) : HasBits ⟨((packB B).take n).toArray⟩ B := by
  intro p hp hs
  have hs' : p < 8 * ((packB B).take n).length := by
    have e : (⟨((packB B).take n).toArray⟩ : ByteArray).size = ((packB B).take n).length := by show (((packB B).take n).toArray).size = _; simp
    rw [e] at hs; exact hs
  rw [List.length_take] at hs'
  unfold bitP byteAt
  have e : ((packB B).take n).getD (p / 8) 0 = (packB B).getD (p / 8) 0 := by
    rw [List.getD_eq_getElem?_getD, List.getElem?_take_of_lt (by omega), List.getD_eq_getElem?_getD]
  show bitAt (((packB B).take n).getD (p / 8) 0).toNat (p % 8) = _
  rw [e, packB_get h _ (by rw [packB_len] at hs'; omega), byteOf_bit h _ _ (by omega), show 8 * (p / 8) + p % 8 = p by omega]
theorem HasBits.extract {s : ByteArray} {B : List Nat} (h : ∀ p, p < B.length → p + 16 < 8 * s.size → bitP s (p + 16) = at0 B p) (h2 : 2 ≤ s.size) (hbyte : ∀ t, byteAt (s.extract 2 s.size) t = byteAt s (2 + t)) : HasBits (s.extract 2 s.size) B := by
  intro p hp hs
  have := h p hp (by rw [rest_size] at hs; omega)
  unfold bitP at this ⊢
  rw [hbyte, show 2 + p / 8 = (p + 16) / 8 by omega, show p % 8 = (p + 16) % 8 by omega]
  exact this
/-- n bits of v, the lowest first -/
def lowB (v n : Nat) : List Nat := (List.range n).map fun i => v / 2 ^ i % 2
/-- n bits of v, the highest first -/
def codeB (v n : Nat) : List Nat := (List.range n).map fun i => v / 2 ^ (n - 1 - i) % 2
theorem lowB_len (v n : Nat) : (lowB v n).length = n := by simp [lowB]
theorem codeB_len (v n : Nat) : (codeB v n).length = n := by simp [codeB]
theorem lowB_01 (v n : Nat) : B01 (lowB v n) := fun x hx => by
  simp only [lowB, List.mem_map] at hx
  obtain ⟨i, _, rfl⟩ := hx
  omega
theorem codeB_01 (v n : Nat) : B01 (codeB v n) := fun x hx => by
  simp only [codeB, List.mem_map] at hx
  obtain ⟨i, _, rfl⟩ := hx
  omega
theorem lowB_at (v n i : Nat) (h : i < n) : at0 (lowB v n) i = v / 2 ^ i % 2 := by simp [at0, lowB, List.getD_eq_getElem?_getD, h]
theorem codeB_at (v n i : Nat) (h : i < n) : at0 (codeB v n) i = v / 2 ^ (n - 1 - i) % 2 := by simp [at0, codeB, List.getD_eq_getElem?_getD, h]
theorem at0_app (A B C : List Nat) (i : Nat) (h : i < B.length) : at0 (A ++ B ++ C) (A.length + i) = at0 B i := by
  unfold at0
  rw [List.getD_eq_getElem?_getD, List.append_assoc, List.getElem?_append_right (by omega), Nat.add_sub_cancel_left, List.getElem?_append_left h, List.getD_eq_getElem?_getD]
/-- a number that was written is read -/
theorem numT_low (s : ByteArray) (A C : List Nat) (v n : Nat) (hv : v < 2 ^ n) (h : HasBits s (A ++ lowB v n ++ C)) (hs : A.length + n ≤ 8 * s.size) : numT s n ⟨A.length, false⟩ = (v, ⟨A.length + n, false⟩) := by
  rw [numT_ok s n _ hs]
  have key : ∀ k, k ≤ n → bitsV s A.length k = v % 2 ^ k := by
    intro k
    induction k with
    | zero => intro _; simp [bitsV, Nat.mod_one]
    | succ k ih =>
      intro hk
      rw [bitsV, ih (by omega), h (A.length + k) (by simp [lowB_len]; omega) (by omega), at0_app A (lowB v n) C k (by rw [lowB_len]; omega), lowB_at v n k (by omega), Nat.pow_succ, Nat.mod_mul, Nat.mul_comm]
  rw [key n (Nat.le_refl _), Nat.mod_eq_of_lt hv]
theorem bitsV_one (s : ByteArray) (p : Nat) : bitsV s p 1 = bitP s p := by simp [bitsV]
theorem half_code (v n m : Nat) (h : m < n) : v / 2 ^ (n - (m + 1)) = 2 * (v / 2 ^ (n - m)) + v / 2 ^ (n - 1 - m) % 2 := by
  rw [show n - m = (n - (m + 1)) + 1 by omega, Nat.pow_succ, ← Nat.div_div_eq_div_mul, show n - 1 - m = n - (m + 1) by omega]
  omega
/-- the code's prefixes are no codes -/
def PreOk (L : List Nat) (v n : Nat) : Prop := ∀ m, m < n → fN L m + cN L m ≤ v / 2 ^ (n - m)
theorem sym_go (s : ByteArray) (L : List Nat) (A C : List Nat) (v n : Nat) (hn : n ≤ 15) (hv : v < 2 ^ n) (h : HasBits s (A ++ codeB v n ++ C)) (hK : kN L 16 ≤ 32768) (hp : PreOk L v n) :
    ∀ m, m < n → A.length + m ≤ 8 * s.size → symT s (codesT L).cs ⟨A.length, false⟩ = symL s (codesT L).cs (15 - m) (binT (v / 2 ^ (n - m)) m) ⟨A.length + m, false⟩ := by
  intro m
  induction m with
  | zero =>
    intro _ _
    rw [Nat.sub_zero n, Nat.div_eq_of_lt hv]; rfl
  | succ m ih =>
    intro hm hs
    rw [ih (by omega) (by omega)]
    have hb : bitsV s (A.length + m) 1 = v / 2 ^ (n - 1 - m) % 2 := by
      rw [bitsV_one, h (A.length + m) (by simp [codeB_len]; omega) (by omega), at0_app A (codeB v n) C m (by rw [codeB_len]; omega), codeB_at v n m (by omega)]
    have hlt : v / 2 ^ (n - m) < 2 ^ m := by
      rw [Nat.div_lt_iff_lt_mul (Nat.two_pow_pos _), ← Nat.pow_add, show m + (n - m) = n by omega]; exact hv
    have hst := (Pr.sym_step s L m (v / 2 ^ (n - m)) (v / 2 ^ (n - 1 - m) % 2) (A.length + m) (by omega) hlt (hp m (by omega)) hb.symm (by omega) hK).2
    have h1 := hp (m + 1) hm
    rw [half_code v n m (by omega)] at h1
    rw [hst (by have : fN L (m + 1) = 2 * (fN L m + cN L m) := rfl; omega), ← half_code v n m (by omega)]
    rfl
/-- a code that was written is read -/
theorem symT_code (s : ByteArray) (L : List Nat) (A C : List Nat) (v n y : Nat) (h1 : 1 ≤ n) (hn : n ≤ 15) (hv : v < 2 ^ n) (h : HasBits s (A ++ codeB v n ++ C)) (hK : kN L 16 ≤ 32768) (hp : PreOk L v n) (hc : fN L n ≤ v ∧ v - fN L n < cN L n) (hy : (ordN L 16).getD (sN L n + (v - fN L n)) 0 = y) (hs : A.length + n ≤ 8 * s.size) :
    symT s (codesT L).cs ⟨A.length, false⟩ = (y, ⟨A.length + n, false⟩) := by
  obtain ⟨m, rfl⟩ : ∃ m, n = m + 1 := ⟨n - 1, by omega⟩
  rw [sym_go s L A C v (m + 1) hn hv h hK hp m (by omega) (by omega)]
  have hb : bitsV s (A.length + m) 1 = v / 2 ^ (m + 1 - 1 - m) % 2 := by
    rw [bitsV_one, h (A.length + m) (by simp [codeB_len]; omega) (by omega), at0_app A (codeB v (m + 1)) C m (by rw [codeB_len]; omega), codeB_at v (m + 1) m (by omega)]
  have hlt : v / 2 ^ (m + 1 - m) < 2 ^ m := by
    rw [Nat.div_lt_iff_lt_mul (Nat.two_pow_pos _), ← Nat.pow_add, show m + (m + 1 - m) = m + 1 by omega]; exact hv
  have e := half_code v (m + 1) m (by omega)
  rw [show m + 1 - (m + 1) = 0 by omega, Nat.pow_zero, Nat.div_one] at e
  have hst := (Pr.sym_step s L m (v / 2 ^ (m + 1 - m)) (v / 2 ^ (m + 1 - 1 - m) % 2) (A.length + m) (by omega) hlt (hp m (by omega)) hb.symm (by omega) hK).1
  rw [← e] at hst
  rw [hst hc.2, hy]
  rfl
/-- a code that is cut short -/
theorem symT_cut (s : ByteArray) (L : List Nat) (A C : List Nat) (v n : Nat) (hn : n ≤ 15) (hv : v < 2 ^ n) (h : HasBits s (A ++ codeB v n ++ C)) (hK : kN L 16 ≤ 32768) (hp : PreOk L v n) (hA : A.length ≤ 8 * s.size) (hs : ¬ A.length + n ≤ 8 * s.size) :
    (symT s (codesT L).cs ⟨A.length, false⟩).2.bad = true := by
  obtain ⟨m, hm⟩ : ∃ m, m = 8 * s.size - A.length := ⟨_, rfl⟩
  rw [sym_go s L A C v n hn hv h hK hp m (by omega) (by omega), show 15 - m = (15 - (m + 1)) + 1 by omega, symL_end s _ _ _ _ rfl (oneT_short s _ (by omega))]
end Go.Proofs.YtephkcdbnogdhaaGreatDoor.Rf
/- One bit more: what becomes of the bytes. Nothing of the program is named here. -/
set_option linter.unusedVariables false
namespace Go.Proofs.YtephkcdbnogdhaaGreatDoor.Rf
theorem at0_snoc (B : List Nat) (b i : Nat) : at0 (B ++ [b]) i = if i = B.length then b else at0 B i := by
  unfold at0
  simp only [List.getD_eq_getElem?_getD]
  by_cases h : i < B.length
  · rw [List.getElem?_append_left h, if_neg (by omega)]
  · by_cases e : i = B.length
    · subst e; simp
    · rw [if_neg e, List.getElem?_append_right (by omega), List.getElem?_eq_none (by simp; omega), List.getElem?_eq_none (by omega)]
theorem at0_far (B : List Nat) (i : Nat) (h : B.length ≤ i) : at0 B i = 0 := by
  unfold at0; rw [List.getD_eq_getElem?_getD, List.getElem?_eq_none h]; rfl
theorem byteOf_other (B : List Nat) (b k : Nat) (h : k ≠ B.length / 8) : byteOf (B ++ [b]) k = byteOf B k := by
  unfold byteOf
  simp only [at0_snoc]
  rw [if_neg (by omega), if_neg (by omega), if_neg (by omega), if_neg (by omega), if_neg (by omega), if_neg (by omega), if_neg (by omega), if_neg (by omega)]
theorem byteOf_last (B : List Nat) (b : Nat) : byteOf (B ++ [b]) (B.length / 8) = byteOf B (B.length / 8) + b * 2 ^ (B.length % 8) ∧ (byteOf B (B.length / 8) = 0 ∨ B.length % 8 ≠ 0) := by
  obtain ⟨q, hq⟩ : ∃ q, q = B.length / 8 := ⟨_, rfl⟩
  obtain ⟨r, hr⟩ : ∃ r, r = B.length % 8 := ⟨_, rfl⟩
  have hl : B.length = 8 * q + r := by omega
  have hr8 : r < 8 := by omega
  rw [← hq, ← hr]
  have z : ∀ j, r ≤ j → at0 B (8 * q + j) = 0 := fun j hj => at0_far B _ (by omega)
  unfold byteOf
  simp only [at0_snoc, hl]
  constructor
  · rcases (by omega : r = 0 ∨ r = 1 ∨ r = 2 ∨ r = 3 ∨ r = 4 ∨ r = 5 ∨ r = 6 ∨ r = 7) with rfl | rfl | rfl | rfl | rfl | rfl | rfl | rfl
    all_goals simp [z]
    all_goals first | omega | (have z0 := z 0 (by omega); rw [Nat.add_zero] at z0; omega)
  · by_cases h : r = 0
    · subst h
      left
      have z0 := z 0 (by omega)
      rw [Nat.add_zero] at z0
      rw [z0, z 1 (by omega), z 2 (by omega), z 3 (by omega), z 4 (by omega), z 5 (by omega), z 6 (by omega), z 7 (by omega)]
    · exact .inr h
theorem packB_snoc_new {B : List Nat} (h : B01 B) (b : Nat) (hm : B.length % 8 = 0) : packB (B ++ [b]) = packB B ++ [UInt8.ofNat b] := by
  have hl := byteOf_last B b
  have h0 : byteOf B (B.length / 8) = 0 := hl.2.resolve_right (fun e => e hm)
  unfold packB
  rw [List.length_append, List.length_singleton, show (B.length + 1 + 7) / 8 = (B.length + 7) / 8 + 1 by omega, List.range_succ, List.map_append]
  congr 1
  · apply List.map_congr_left
    intro k hk
    rw [List.mem_range] at hk
    rw [byteOf_other B b k (by omega)]
  · rw [List.map_singleton, show (B.length + 7) / 8 = B.length / 8 by omega, hl.1, h0, hm]
    simp
theorem packB_snoc_old {B : List Nat} (h : B01 B) (b : Nat) (hm : B.length % 8 ≠ 0) : packB (B ++ [b]) = (packB B).set (B.length / 8) (UInt8.ofNat (byteOf B (B.length / 8) + b * 2 ^ (B.length % 8))) := by
  have hl := byteOf_last B b
  apply List.ext_getElem?
  intro k
  rw [List.getElem?_set]
  unfold packB
  simp only [List.getElem?_map, List.length_append, List.length_singleton, List.length_map, List.length_range, show (B.length + 1 + 7) / 8 = (B.length + 7) / 8 by omega]
  by_cases e : B.length / 8 = k
  · subst e
    rw [if_pos rfl, if_pos (by omega), List.getElem?_range (by omega)]
    simp [hl.1]
  · rw [if_neg e]
    by_cases hk : k < (B.length + 7) / 8
    · rw [List.getElem?_range hk]
      simp [byteOf_other B b k (fun e2 => e e2.symm)]
    · rw [List.getElem?_eq_none (by simp; omega)]
      rfl
theorem byteOf_small {B : List Nat} (h : B01 B) : byteOf B (B.length / 8) < 2 ^ (B.length % 8) := by
  obtain ⟨q, hq⟩ : ∃ q, q = B.length / 8 := ⟨_, rfl⟩
  obtain ⟨r, hr⟩ : ∃ r, r = B.length % 8 := ⟨_, rfl⟩
  have hl : B.length = 8 * q + r := by omega
  rw [← hq, ← hr]
  have z : ∀ j, r ≤ j → at0 B (8 * q + j) = 0 := fun j hj => at0_far B _ (by omega)
  have h0 := at0_le h (8 * q)
  have h1 := at0_le h (8 * q + 1)
  have h2 := at0_le h (8 * q + 2)
  have h3 := at0_le h (8 * q + 3)
  have h4 := at0_le h (8 * q + 4)
  have h5 := at0_le h (8 * q + 5)
  have h6 := at0_le h (8 * q + 6)
  have h7 := at0_le h (8 * q + 7)
  have z0 : r ≤ 0 → at0 B (8 * q) = 0 := fun h => by have := z 0 h; rwa [Nat.add_zero] at this
  unfold byteOf
  rcases (by omega : r = 0 ∨ r = 1 ∨ r = 2 ∨ r = 3 ∨ r = 4 ∨ r = 5 ∨ r = 6 ∨ r = 7) with rfl | rfl | rfl | rfl | rfl | rfl | rfl | rfl
  · rw [z0 (by omega), z 1 (by omega), z 2 (by omega), z 3 (by omega), z 4 (by omega), z 5 (by omega), z 6 (by omega), z 7 (by omega)]; simp
  · rw [z 1 (by omega), z 2 (by omega), z 3 (by omega), z 4 (by omega), z 5 (by omega), z 6 (by omega), z 7 (by omega), show (2 : Nat) ^ 1 = 2 from rfl]; omega
  · rw [z 2 (by omega), z 3 (by omega), z 4 (by omega), z 5 (by omega), z 6 (by omega), z 7 (by omega), show (2 : Nat) ^ 2 = 4 from rfl]; omega
  · rw [z 3 (by omega), z 4 (by omega), z 5 (by omega), z 6 (by omega), z 7 (by omega), show (2 : Nat) ^ 3 = 8 from rfl]; omega
  · rw [z 4 (by omega), z 5 (by omega), z 6 (by omega), z 7 (by omega), show (2 : Nat) ^ 4 = 16 from rfl]; omega
  · rw [z 5 (by omega), z 6 (by omega), z 7 (by omega), show (2 : Nat) ^ 5 = 32 from rfl]; omega
  · rw [z 6 (by omega), z 7 (by omega), show (2 : Nat) ^ 6 = 64 from rfl]; omega
  · rw [z 7 (by omega), show (2 : Nat) ^ 7 = 128 from rfl]; omega
theorem lowB_succ (v n : Nat) : lowB v (n + 1) = lowB v n ++ [v / 2 ^ n % 2] := by simp [lowB, List.range_succ]
end Go.Proofs.YtephkcdbnogdhaaGreatDoor.Rf
/- Tokens that were written by the fixed codes: what unpacking them gives. Nothing of the program is named here. -/
set_option linter.unusedVariables false
namespace Go.Proofs.YtephkcdbnogdhaaGreatDoor.Rf
/-- the fixed code of a literal symbol: its value, its length -/
def litC (y : Nat) : Nat × Nat := if y < 144 then (48 + y, 8) else if y < 256 then (256 + y, 9) else if y < 280 then (y - 256, 7) else (y - 88, 8)
def fixOrd : List Nat := (List.range 24).map (· + 256) ++ List.range 144 ++ (List.range 8).map (· + 280) ++ (List.range 112).map (· + 144)
theorem fix_ord : ordN fixList 16 = fixOrd := by decide +kernel
def fixIdx (y : Nat) : Nat := if y < 144 then 24 + y else if y < 256 then 176 + (y - 144) else if y < 280 then y - 256 else 168 + (y - 280)
theorem fixOrd_at (y : Nat) (h : y < 288) : fixOrd.getD (fixIdx y) 0 = y := by
  have all : ∀ y : Fin 288, fixOrd.getD (fixIdx y.val) 0 = y.val := by decide +kernel
  exact all ⟨y, h⟩
theorem fix_c : (List.range 10).map (cN fixList) = [0, 0, 0, 0, 0, 0, 0, 24, 152, 112] := by decide +kernel
theorem fix_c_at (m : Nat) (h : m < 10) : cN fixList m = [0, 0, 0, 0, 0, 0, 0, 24, 152, 112].getD m 0 := by
  rw [← fix_c, List.getD_eq_getElem?_getD, List.getElem?_map, List.getElem?_range h]; rfl
theorem fix_f_low (m : Nat) (h : m ≤ 7) : fN fixList m = 0 := by
  induction m with
  | zero => rfl
  | succ m ih =>
    rw [fN, ih (by omega), fix_c_at m (by omega)]
    rcases (by omega : m = 0 ∨ m = 1 ∨ m = 2 ∨ m = 3 ∨ m = 4 ∨ m = 5 ∨ m = 6) with rfl | rfl | rfl | rfl | rfl | rfl | rfl <;> rfl
theorem fix_c_low (m : Nat) (h : m ≤ 6) : cN fixList m = 0 := by
  rw [fix_c_at m (by omega)]
  rcases (by omega : m = 0 ∨ m = 1 ∨ m = 2 ∨ m = 3 ∨ m = 4 ∨ m = 5 ∨ m = 6) with rfl | rfl | rfl | rfl | rfl | rfl | rfl <;> rfl
theorem fix_c7 : cN fixList 7 = 24 := fix_c_at 7 (by omega)
theorem fix_c8 : cN fixList 8 = 152 := fix_c_at 8 (by omega)
theorem fix_c9 : cN fixList 9 = 112 := fix_c_at 9 (by omega)
theorem fix_f7 : fN fixList 7 = 0 := fix_f_low 7 (by omega)
theorem fix_f8 : fN fixList 8 = 48 := by rw [fN, fix_f7, fix_c7]
theorem fix_f9 : fN fixList 9 = 400 := by rw [fN, fix_f8, fix_c8]
theorem fix_s_low (m : Nat) (h : m ≤ 7) : sN fixList m = 0 := by
  induction m with
  | zero => rfl
  | succ m ih => rw [sN, ih (by omega), fix_c_low m (by omega)]
theorem fix_s7 : sN fixList 7 = 0 := fix_s_low 7 (by omega)
theorem fix_s8 : sN fixList 8 = 24 := by rw [sN, fix_s7, fix_c7]
theorem fix_s9 : sN fixList 9 = 176 := by rw [sN, fix_s8, fix_c8]
theorem fix_K : kN fixList 16 ≤ 32768 := by decide +kernel
theorem litC_bd (y : Nat) (h : y < 288) : 7 ≤ (litC y).2 ∧ (litC y).2 ≤ 9 ∧ (litC y).1 < 2 ^ (litC y).2 := by
  unfold litC
  split
  · exact ⟨by simp, by simp, by show 48 + y < 256; omega⟩
  · split
    · exact ⟨by simp, by simp, by show 256 + y < 512; omega⟩
    · split
      · exact ⟨by simp, by simp, by show y - 256 < 128; omega⟩
      · exact ⟨by simp, by simp, by show y - 88 < 256; omega⟩
theorem pre_low (v n m : Nat) (hm : m ≤ 6) : fN fixList m + cN fixList m ≤ v / 2 ^ (n - m) := by
  rw [fix_f_low m (by omega), fix_c_low m hm]; exact Nat.zero_le _
theorem litC_pre (y : Nat) (h : y < 288) : PreOk fixList (litC y).1 (litC y).2 := by
  intro m hm
  by_cases h6 : m ≤ 6
  · exact pre_low _ _ m h6
  · unfold litC at hm ⊢
    by_cases h1 : y < 144
    · rw [if_pos h1] at hm ⊢
      have e : m = 7 := by dsimp only at hm; omega
      subst e
      rw [fix_f7, fix_c7]; show 0 + 24 ≤ (48 + y) / 2; omega
    · rw [if_neg h1] at hm ⊢
      by_cases h2 : y < 256
      · rw [if_pos h2] at hm ⊢
        rcases (by dsimp only at hm; omega : m = 7 ∨ m = 8) with rfl | rfl
        · rw [fix_f7, fix_c7]; show 0 + 24 ≤ (256 + y) / 4; omega
        · rw [fix_f8, fix_c8]; show 48 + 152 ≤ (256 + y) / 2; omega
      · rw [if_neg h2] at hm ⊢
        by_cases h3 : y < 280
        · rw [if_pos h3] at hm; dsimp only at hm; omega
        · rw [if_neg h3] at hm ⊢
          have e : m = 7 := by dsimp only at hm; omega
          subst e
          rw [fix_f7, fix_c7]; show 0 + 24 ≤ (y - 88) / 2; omega
theorem litC_hit (y : Nat) (h : y < 288) : (fN fixList (litC y).2 ≤ (litC y).1 ∧ (litC y).1 - fN fixList (litC y).2 < cN fixList (litC y).2) ∧ (ordN fixList 16).getD (sN fixList (litC y).2 + ((litC y).1 - fN fixList (litC y).2)) 0 = y := by
  rw [fix_ord]
  have ho := fixOrd_at y h
  unfold fixIdx at ho
  unfold litC
  by_cases h1 : y < 144
  · rw [if_pos h1] at ho ⊢
    dsimp only
    rw [fix_f8, fix_c8, fix_s8]
    exact ⟨by omega, by rw [show 24 + (48 + y - 48) = 24 + y by omega]; exact ho⟩
  · rw [if_neg h1] at ho ⊢
    by_cases h2 : y < 256
    · rw [if_pos h2] at ho ⊢
      dsimp only
      rw [fix_f9, fix_c9, fix_s9]
      exact ⟨by omega, by rw [show 176 + (256 + y - 400) = 176 + (y - 144) by omega]; exact ho⟩
    · rw [if_neg h2] at ho ⊢
      by_cases h3 : y < 280
      · rw [if_pos h3] at ho ⊢
        dsimp only
        rw [fix_f7, fix_c7, fix_s7]
        exact ⟨by omega, by rw [show 0 + (y - 256 - 0) = y - 256 by omega]; exact ho⟩
      · rw [if_neg h3] at ho ⊢
        dsimp only
        rw [fix_f8, fix_c8, fix_s8]
        exact ⟨by omega, by rw [show 24 + (y - 88 - 48) = 168 + (y - 280) by omega]; exact ho⟩
/-- the fixed codes -/
def FA : List (Nat × List UInt8) := (codesT fixList).cs
def FB : List (Nat × List UInt8) := (codesT (List.replicate 32 5)).cs
def litB (y : Nat) : List Nat := codeB (litC y).1 (litC y).2
theorem litB_len (y : Nat) : (litB y).length = (litC y).2 := codeB_len _ _
theorem lit_read (s : ByteArray) (A C : List Nat) (y : Nat) (hy : y < 288) (h : HasBits s (A ++ litB y ++ C)) (hs : A.length + (litB y).length ≤ 8 * s.size) : symT s FA ⟨A.length, false⟩ = (y, ⟨A.length + (litB y).length, false⟩) := by
  have hb := litC_bd y hy
  have hh := litC_hit y hy
  rw [litB_len] at hs ⊢
  exact symT_code s fixList A C _ _ y (by omega) (by omega) hb.2.2 h fix_K (litC_pre y hy) hh.1 hh.2 hs
theorem lit_cut (s : ByteArray) (A C : List Nat) (y : Nat) (hy : y < 288) (h : HasBits s (A ++ litB y ++ C)) (hA : A.length ≤ 8 * s.size) (hs : ¬ A.length + (litB y).length ≤ 8 * s.size) : (symT s FA ⟨A.length, false⟩).2.bad = true := by
  have hb := litC_bd y hy
  rw [litB_len] at hs
  exact symT_cut s fixList A C _ _ (by omega) hb.2.2 h fix_K (litC_pre y hy) hA hs
theorem five_c (m : Nat) (h : m < 5) : cN (List.replicate 32 5) m = 0 := by
  rcases (by omega : m = 0 ∨ m = 1 ∨ m = 2 ∨ m = 3 ∨ m = 4) with rfl | rfl | rfl | rfl | rfl <;> decide +kernel
theorem five_f (m : Nat) (h : m ≤ 5) : fN (List.replicate 32 5) m = 0 := by
  induction m with
  | zero => rfl
  | succ m ih => rw [fN, ih (by omega), five_c m (by omega)]
theorem five_s (m : Nat) (h : m ≤ 5) : sN (List.replicate 32 5) m = 0 := by
  induction m with
  | zero => rfl
  | succ m ih => rw [sN, ih (by omega), five_c m (by omega)]
theorem five_c5 : cN (List.replicate 32 5) 5 = 32 := by decide +kernel
theorem five_K : kN (List.replicate 32 5) 16 ≤ 32768 := by decide +kernel
theorem five_ord (d : Nat) (h : d < 32) : (ordN (List.replicate 32 5) 16).getD d 0 = d := by
  have all : ∀ d : Fin 32, (ordN (List.replicate 32 5) 16).getD d.val 0 = d.val := by decide +kernel
  exact all ⟨d, h⟩
theorem five_pre (d : Nat) : PreOk (List.replicate 32 5) d 5 := fun m hm => by rw [five_f m (by omega), five_c m hm]; exact Nat.zero_le _
theorem dist_read (s : ByteArray) (A C : List Nat) (d : Nat) (hd : d < 32) (h : HasBits s (A ++ codeB d 5 ++ C)) (hs : A.length + 5 ≤ 8 * s.size) : symT s FB ⟨A.length, false⟩ = (d, ⟨A.length + 5, false⟩) :=
  symT_code s (List.replicate 32 5) A C d 5 d (by omega) (by omega) hd h five_K (five_pre d) (by rw [five_f 5 (by omega), five_c5]; omega) (by rw [five_f 5 (by omega), five_s 5 (by omega)]; simpa using five_ord d hd) hs
theorem dist_cut (s : ByteArray) (A C : List Nat) (d : Nat) (hd : d < 32) (h : HasBits s (A ++ codeB d 5 ++ C)) (hA : A.length ≤ 8 * s.size) (hs : ¬ A.length + 5 ≤ 8 * s.size) : (symT s FB ⟨A.length, false⟩).2.bad = true :=
  symT_cut s (List.replicate 32 5) A C d 5 (by omega) hd h five_K (five_pre d) hA hs
/-- a symbol for a length, for a distance -/
def LenOk (n y : Nat) : Prop := 257 ≤ y ∧ y ≤ 285 ∧ (lenT y).1 ≤ n ∧ n - (lenT y).1 < 2 ^ (lenT y).2
def DistOk (far d : Nat) : Prop := d ≤ 29 ∧ (distT d).1 ≤ far ∧ far - (distT d).1 < 2 ^ (distT d).2
/-- bytes that come again -/
def cpO (far : Nat) : Nat → List UInt8 → List UInt8
  | 0, out => out
  | n + 1, out => cpO far n (out ++ [out.getD (out.length - far) 0])
theorem cpO_len (far n : Nat) : ∀ out, (cpO far n out).length = out.length + n := by
  induction n with
  | zero => intro out; rfl
  | succ n ih => intro out; rw [cpO, ih]; simp; omega
theorem cpL_ok (mst far : Nat) (p : Nat) (n : Nat) : ∀ out : List UInt8, out.length + n ≤ mst → cpL mst far n ⟨⟨p, false⟩, out⟩ = ⟨⟨p, false⟩, cpO far n out⟩ := by
  induction n with
  | zero => intro out _; rfl
  | succ n ih =>
    intro out h
    rw [cpL_go mst far n _ rfl, putT_go mst _ _ (by dsimp only; omega) rfl, cpO]
    exact ih _ (by simp; omega)
def matB (n far y d : Nat) : List Nat := litB y ++ lowB (n - (lenT y).1) (lenT y).2 ++ codeB d 5 ++ lowB (far - (distT d).1) (distT d).2
/-- what was written, what it stands for, how far back it reaches at most -/
inductive Wrote : List Nat → List UInt8 → Nat → Prop
  | nil : Wrote [1, 1, 0] [] 1
  | lit {B out most} (b : UInt8) : Wrote B out most → Wrote (B ++ litB b.toNat) (out ++ [b]) most
  | mat {B out most} (n far y d : Nat) : Wrote B out most → 1 ≤ far → far ≤ out.length → LenOk n y → DistOk far d → Wrote (B ++ matB n far y d) (cpO far n out) (max most far)
theorem Wrote.bits {B : List Nat} {out : List UInt8} {most : Nat} (h : Wrote B out most) : B01 B ∧ 3 ≤ B.length ∧ 1 ≤ most := by
  induction h with
  | nil => exact ⟨fun x hx => by simp at hx; omega, by simp, by omega⟩
  | lit b _ ih => exact ⟨ih.1.append (codeB_01 _ _), by rw [List.length_append]; omega, ih.2.2⟩
  | mat n far y d _ _ _ _ _ ih => exact ⟨ih.1.append (((((codeB_01 _ _).append (lowB_01 _ _)).append (codeB_01 _ _))).append (lowB_01 _ _)), by rw [List.length_append]; omega, by omega⟩
/-- is all within bounds? -/
def Good (s : ByteArray) (win mst : Nat) (B : List Nat) (out : List UInt8) (most : Nat) : Prop := most ≤ win ∧ out.length ≤ mst ∧ B.length ≤ 8 * s.size
theorem run_any {B : List Nat} {out : List UInt8} {most : Nat} (hW : Wrote B out most) : ∀ (s : ByteArray) (C : List Nat) (win mst F : Nat), HasBits s (B ++ C) → 1 ≤ win → 3 ≤ 8 * s.size → 8 * s.size < F →
    (Good s win mst B out most → ∃ k, k + 3 ≤ B.length ∧ symsF s win mst FA FB F ⟨⟨3, false⟩, []⟩ = symsF s win mst FA FB (F - k) ⟨⟨B.length, false⟩, out⟩) ∧
    (¬ Good s win mst B out most → (symsF s win mst FA FB F ⟨⟨3, false⟩, []⟩).st.bad = true) := by
  induction hW with
  | nil =>
    intro s C win mst F _ h1 h3 _
    exact ⟨fun _ => ⟨0, by simp, rfl⟩, fun hn => absurd ⟨h1, Nat.zero_le _, h3⟩ hn⟩
  | @lit B out most b hW ih =>
    intro s C win mst F hB h1 h3 hF
    have hb := hW.bits
    have hb256 : b.toNat < 256 := b.toNat_lt
    have hl := litC_bd b.toNat (by omega)
    rw [← litB_len] at hl
    have hB' : HasBits s (B ++ (litB b.toNat ++ C)) := by rw [← List.append_assoc]; exact hB
    obtain ⟨i1, i2⟩ := ih s (litB b.toNat ++ C) win mst F hB' h1 h3 hF
    by_cases hg : Good s win mst B out most
    · obtain ⟨k, hk, e⟩ := i1 hg
      obtain ⟨f, hf⟩ : ∃ f, F - k = f + 1 := ⟨F - k - 1, by have := hg.2.2; omega⟩
      rw [e, hf]
      by_cases hs : B.length + (litB b.toNat).length ≤ 8 * s.size
      · have hr := lit_read s B C b.toNat (by omega) hB hs
        rw [symsF_put s win mst FA FB f _ rfl (by rw [hr]) (by rw [hr]; exact hb256), hr]
        dsimp only
        rw [UInt8.ofNat_toNat]
        by_cases hm : mst ≤ out.length
        · rw [putT_full mst b _ hm, symsF_bad _ _ _ _ _ _ _ rfl]
          exact ⟨fun hg' => by have := hg'.2.1; simp at this; omega, fun _ => rfl⟩
        · rw [putT_go mst b _ hm rfl]
          refine ⟨fun _ => ⟨k + 1, by rw [List.length_append]; omega, ?_⟩, fun hn => absurd ⟨hg.1, by simp; omega, by rw [List.length_append]; exact hs⟩ hn⟩
          rw [List.length_append, show F - (k + 1) = f by omega]
      · have hc := lit_cut s B C b.toNat (by omega) hB hg.2.2 hs
        rw [symsF_end s win mst FA FB f _ rfl hc]
        exact ⟨fun hg' => by have := hg'.2.2; rw [List.length_append] at this; omega, fun _ => hc⟩
    · exact ⟨fun hg' => absurd ⟨hg'.1, by have := hg'.2.1; simp at this; omega, by have := hg'.2.2; rw [List.length_append] at this; omega⟩ hg, fun _ => i2 hg⟩
  | @mat B out most n far y d hW hf1 hf2 hL hD ih =>
    intro s C win mst F hB h1 h3 hF
    obtain ⟨l1, l2, l3, l4⟩ := hL
    obtain ⟨d1, d2, d3⟩ := hD
    have hl := litC_bd y (by omega)
    rw [← litB_len] at hl
    have hlen : (B ++ matB n far y d).length = B.length + (litB y).length + (lenT y).2 + 5 + (distT d).2 := by simp [matB, lowB_len, codeB_len]; omega
    have hB' : HasBits s (B ++ (matB n far y d ++ C)) := by rw [← List.append_assoc]; exact hB
    obtain ⟨i1, i2⟩ := ih s (matB n far y d ++ C) win mst F hB' h1 h3 hF
    by_cases hg : Good s win mst B out most
    rotate_left
    · exact ⟨fun hg' => absurd ⟨by have := hg'.1; omega, by have := hg'.2.1; rw [cpO_len] at this; omega, by have := hg'.2.2; rw [hlen] at this; omega⟩ hg, fun _ => i2 hg⟩
    obtain ⟨k, hk, e⟩ := i1 hg
    obtain ⟨f, hf⟩ : ∃ f, F - k = f + 1 := ⟨F - k - 1, by have := hg.2.2; omega⟩
    rw [e, hf]
    have b1 : HasBits s (B ++ litB y ++ (lowB (n - (lenT y).1) (lenT y).2 ++ codeB d 5 ++ lowB (far - (distT d).1) (distT d).2 ++ C)) := by
      have := hB; unfold matB at this; simpa [List.append_assoc] using this
    have b2 : HasBits s (B ++ litB y ++ lowB (n - (lenT y).1) (lenT y).2 ++ (codeB d 5 ++ lowB (far - (distT d).1) (distT d).2 ++ C)) := by
      have := hB; unfold matB at this; simpa [List.append_assoc] using this
    have b3 : HasBits s (B ++ litB y ++ lowB (n - (lenT y).1) (lenT y).2 ++ codeB d 5 ++ (lowB (far - (distT d).1) (distT d).2 ++ C)) := by
      have := hB; unfold matB at this; simpa [List.append_assoc] using this
    have b4 : HasBits s (B ++ litB y ++ lowB (n - (lenT y).1) (lenT y).2 ++ codeB d 5 ++ lowB (far - (distT d).1) (distT d).2 ++ C) := by
      have := hB; unfold matB at this; simpa [List.append_assoc] using this
    have e1 : (B ++ litB y).length = B.length + (litB y).length := by simp
    have e2 : (B ++ litB y ++ lowB (n - (lenT y).1) (lenT y).2).length = B.length + (litB y).length + (lenT y).2 := by simp [lowB_len]; omega
    have e3 : (B ++ litB y ++ lowB (n - (lenT y).1) (lenT y).2 ++ codeB d 5).length = B.length + (litB y).length + (lenT y).2 + 5 := by simp [lowB_len, codeB_len]; omega
    by_cases hs1 : B.length + (litB y).length ≤ 8 * s.size
    rotate_left
    · have hc := lit_cut s B _ y (by omega) b1 hg.2.2 hs1
      rw [symsF_end s win mst FA FB f _ rfl hc]
      exact ⟨fun hg' => by have := hg'.2.2; rw [hlen] at this; omega, fun _ => hc⟩
    have hr := lit_read s B _ y (by omega) b1 hs1
    have hag := symsF_again s win mst FA FB f ⟨⟨B.length, false⟩, out⟩ rfl (by rw [hr]) (by rw [hr]; exact l1) (by rw [hr]; exact l2)
    rw [hr] at hag
    dsimp only at hag
    rw [hag]
    have hbadly : (againT s win mst FB y ⟨⟨B.length + (litB y).length, false⟩, out⟩).st.bad = true → (if (matchT s win out.length FB y ⟨B.length + (litB y).length, false⟩).stop = true then againT s win mst FB y ⟨⟨B.length + (litB y).length, false⟩, out⟩ else symsF s win mst FA FB f (againT s win mst FB y ⟨⟨B.length + (litB y).length, false⟩, out⟩)).st.bad = true := fun hb => by
      split
      · exact hb
      · rw [symsF_bad _ _ _ _ _ _ _ hb]; exact hb
    by_cases hs2 : B.length + (litB y).length + (lenT y).2 ≤ 8 * s.size
    rotate_left
    · exact ⟨fun hg' => by have := hg'.2.2; rw [hlen] at this; omega, fun _ => hbadly (again_len (numT_short s _ _ hs1 hs2))⟩
    have hn1 := numT_low s (B ++ litB y) _ _ _ l4 b2 (by rw [e1]; exact hs2)
    rw [e1] at hn1
    by_cases hs3 : B.length + (litB y).length + (lenT y).2 + 5 ≤ 8 * s.size
    rotate_left
    · have hc := dist_cut s _ _ d (by omega) b3 (by rw [e2]; exact hs2) (by rw [e2]; exact hs3)
      rw [e2] at hc
      exact ⟨fun hg' => by have := hg'.2.2; rw [hlen] at this; omega, fun _ => hbadly (again_dist (by dsimp only; rw [hn1]; exact hc))⟩
    have hd := dist_read s _ _ d (by omega) b3 (by rw [e2]; exact hs3)
    rw [e2] at hd
    by_cases hs4 : B.length + (litB y).length + (lenT y).2 + 5 + (distT d).2 ≤ 8 * s.size
    rotate_left
    · refine ⟨fun hg' => by have := hg'.2.2; rw [hlen] at this; omega, fun _ => hbadly (again_more ?_ ?_)⟩
      · dsimp only; rw [hn1, hd]; exact Nat.not_lt.2 d1
      · dsimp only; rw [hn1]; dsimp only; rw [hd]; exact numT_short s _ _ hs3 hs4
    have hn3 := numT_low s (B ++ litB y ++ lowB (n - (lenT y).1) (lenT y).2 ++ codeB d 5) C _ _ d3 b4 (by rw [e3]; exact hs4)
    rw [e3] at hn3
    have hgo := again_go (win := win) (most := mst) (out := out) hn1 hd d1 hn3
    rw [show (distT d).1 + (far - (distT d).1) = far by omega, show (lenT y).1 + (n - (lenT y).1) = n by omega] at hgo
    by_cases hw : win < far
    · rw [if_pos (.inl hw)] at hgo
      exact ⟨fun hg' => by have := hg'.1; omega, fun _ => hbadly (by rw [hgo])⟩
    rw [if_neg (by omega)] at hgo
    by_cases hm : out.length + n ≤ mst
    rotate_left
    · have hov := cpL_over mst far n ⟨⟨B.length + (litB y).length + (lenT y).2 + 5 + (distT d).2, false⟩, out⟩ (by dsimp only; omega) hg.2.1
      exact ⟨fun hg' => by have := hg'.2.1; rw [cpO_len] at this; omega, fun _ => hbadly (by rw [hgo]; exact hov)⟩
    rw [cpL_ok mst far _ n out hm] at hgo
    have hns : ¬ (matchT s win out.length FB y ⟨B.length + (litB y).length, false⟩).stop = true := fun hst => by
      have h1 := matchT_stop s win out.length FB y ⟨B.length + (litB y).length, false⟩ hst
      have h2 := again_bad (most := mst) (u := ⟨⟨B.length + (litB y).length, false⟩, out⟩) h1
      rw [hgo] at h2; cases h2
    rw [if_neg hns, hgo]
    refine ⟨fun _ => ⟨k + 1, by rw [hlen]; omega, ?_⟩, fun hn => absurd ⟨by have := hg.1; omega, by rw [cpO_len]; exact hm, by rw [hlen]; exact hs4⟩ hn⟩
    rw [hlen, show F - (k + 1) = f by omega]
/-- what unpacking gives -/
theorem infl_wrote {B : List Nat} {out : List UInt8} {most : Nat} (hW : Wrote B out most) (s : ByteArray) (win mst : Nat) (hB : HasBits s (B ++ litB 256)) (h1 : 1 ≤ win) (h3 : 3 ≤ 8 * s.size) :
    (most ≤ win ∧ out.length ≤ mst ∧ B.length + 7 ≤ 8 * s.size → RfW.inflU s win mst = ⟨⟨B.length + 7, false⟩, out⟩) ∧
    (¬ (most ≤ win ∧ out.length ≤ mst ∧ B.length + 7 ≤ 8 * s.size) → (RfW.inflU s win mst).st.bad = true) := by
  have hb := hW.bits
  have h012 : at0 (B ++ litB 256) 0 = 1 ∧ at0 (B ++ litB 256) 1 = 1 ∧ at0 (B ++ litB 256) 2 = 0 := by
    have : ∃ R, B = [1, 1, 0] ++ R := by
      clear hB hb
      induction hW with
      | nil => exact ⟨[], rfl⟩
      | lit b _ ih => obtain ⟨R, rfl⟩ := ih; exact ⟨R ++ litB b.toNat, by simp⟩
      | mat n far y d _ _ _ _ _ ih => obtain ⟨R, rfl⟩ := ih; exact ⟨R ++ matB n far y d, by simp⟩
    obtain ⟨R, rfl⟩ := this
    exact ⟨rfl, rfl, rfl⟩
  have hlen : 10 ≤ (B ++ litB 256).length := by rw [List.length_append, litB_len]; show 10 ≤ B.length + 7; omega
  have z0 := hB 0 (by omega) (by omega)
  have z1 := hB 1 (by omega) (by omega)
  have z2 := hB 2 (by omega) (by omega)
  rw [h012.1] at z0
  rw [h012.2.1] at z1
  rw [h012.2.2] at z2
  have o1 : oneT s ⟨0, false⟩ = (1, ⟨1, false⟩) := by rw [oneT_ok s 0 (by omega), bitsV_one, z0]
  have n2 : numT s 2 ⟨1, false⟩ = (1, ⟨3, false⟩) := by rw [numT_ok s 2 1 (by omega)]; simp [bitsV, z1, z2]
  have hblk : blkT s win mst ⟨⟨0, false⟩, []⟩ = (1, symsF s win mst FA FB (8 * s.size + 1) ⟨⟨3, false⟩, []⟩) := by
    unfold blkT
    dsimp only
    rw [o1]
    dsimp only
    rw [n2]
    rfl
  have hI : RfW.inflU s win mst = symsF s win mst FA FB (8 * s.size + 1) ⟨⟨3, false⟩, []⟩ := by
    unfold RfW.inflU
    rw [blkF_end s win mst (8 * s.size) _ rfl (by rw [hblk]; simp), hblk]
  rw [hI]
  obtain ⟨i1, i2⟩ := run_any hW s (litB 256) win mst (8 * s.size + 1) hB h1 h3 (by omega)
  have l7 : (litB 256).length = 7 := litB_len 256
  by_cases hg : Good s win mst B out most
  · obtain ⟨k, hk, e⟩ := i1 hg
    obtain ⟨f, hf⟩ : ∃ f, 8 * s.size + 1 - k = f + 1 := ⟨8 * s.size - k, by have := hg.2.2; omega⟩
    rw [e, hf]
    by_cases hs : B.length + (litB 256).length ≤ 8 * s.size
    · have hr := lit_read s B [] 256 (by omega) (by simpa using hB) hs
      rw [symsF_stop s win mst FA FB f _ rfl (by rw [hr]) (by rw [hr]), hr, l7]
      exact ⟨fun _ => rfl, fun hn => absurd ⟨hg.1, hg.2.1, by omega⟩ hn⟩
    · have hc := lit_cut s B [] 256 (by omega) (by simpa using hB) hg.2.2 hs
      rw [symsF_end s win mst FA FB f _ rfl hc]
      exact ⟨fun hg' => by omega, fun _ => hc⟩
  · exact ⟨fun hg' => absurd ⟨hg'.1, hg'.2.1, by omega⟩ hg, fun _ => i2 hg⟩
end Go.Proofs.YtephkcdbnogdhaaGreatDoor.Rf
