/- The document's unpacking, turned word for word into functions on plain data: a row of bits that are taken one by one, numbers, codes, symbols. Nothing of the program is named here. -/

set_option linter.unusedVariables false
namespace Go.Proofs.YtephkcdbnogdhaaGreatDoor.Rf
/-- where the row stands, and whether something was not as it must be -/
structure RS where
  pos : Nat
  bad : Bool
/-- bit k of a number -/
def bitAt (v k : Nat) : Nat := v / 2 ^ k % 2
theorem bitAt_le (v k : Nat) : bitAt v k ≤ 1 := by unfold bitAt; omega
theorem bitAt_of (v k y : Nat) (h : y = v / 2 ^ k) : bitAt v k = y % 2 := by unfold bitAt; rw [h]
theorem half_more (a k : Nat) : a / 2 ^ (k + 1) = a / 2 ^ k / 2 := by
  rw [Nat.div_div_eq_div_mul, Nat.pow_succ]
/-- byte i of a text -/
def byteAt (s : ByteArray) (i : Nat) : Nat := (s.data.toList.getD i 0).toNat
theorem byteAt_lt (s : ByteArray) (i : Nat) : byteAt s i ≤ 255 := by
  unfold byteAt; have := (s.data.toList.getD i 0).toNat_lt; omega
theorem byteAt_is (s : ByteArray) (i : Nat) (h : i < s.size) : byteAt s i = s[i].toNat := by
  unfold byteAt
  have h2 : i < s.data.toList.length := by simpa using h
  simp only [List.getD, List.getElem?_eq_getElem h2, Option.getD_some]
  rfl
/-- the next bit -/
def oneT (s : ByteArray) (st : RS) : Nat × RS :=
  if st.bad = true ∨ 8 * s.size ≤ st.pos then (0, ⟨st.pos, true⟩) else (bitAt (byteAt s (st.pos / 8)) (st.pos % 8), ⟨st.pos + 1, false⟩)
theorem oneT_bad (s : ByteArray) (st : RS) (h : st.bad = true ∨ 8 * s.size ≤ st.pos) : oneT s st = (0, ⟨st.pos, true⟩) := by unfold oneT; rw [if_pos h]
theorem oneT_go (s : ByteArray) (st : RS) (h : ¬ (st.bad = true ∨ 8 * s.size ≤ st.pos)) : oneT s st = (bitAt (byteAt s (st.pos / 8)) (st.pos % 8), ⟨st.pos + 1, false⟩) := by unfold oneT; rw [if_neg h]
theorem oneT_le (s : ByteArray) (st : RS) : (oneT s st).1 ≤ 1 := by
  unfold oneT; split
  · simp
  · exact bitAt_le _ _
theorem oneT_pos (s : ByteArray) (st : RS) (h : st.pos ≤ 8 * s.size) : (oneT s st).2.pos ≤ 8 * s.size := by
  unfold oneT; split
  · exact h
  · simp; omega
/-- a number of k bits more -/
def numL (s : ByteArray) : Nat → Nat → Nat → RS → Nat × RS
  | 0, v, _, st => (v, st)
  | k + 1, v, u, st => numL s k (v + u * (oneT s st).1) (2 * u) (oneT s st).2
def numT (s : ByteArray) (n : Nat) (st : RS) : Nat × RS := numL s n 0 1 st
theorem numL_lt (s : ByteArray) (k : Nat) : ∀ v i st, v < 2 ^ i → (numL s k v (2 ^ i) st).1 < 2 ^ (i + k) := by
  induction k with
  | zero => intro v i st h; exact h
  | succ k ih =>
    intro v i st h
    simp only [numL]
    rw [show 2 * 2 ^ i = 2 ^ (i + 1) by rw [Nat.pow_succ, Nat.mul_comm], show i + (k + 1) = i + 1 + k by omega]
    refine ih _ _ _ ?_
    have h1 := oneT_le s st
    have h2 : 2 ^ i * (oneT s st).1 ≤ 2 ^ i * 1 := Nat.mul_le_mul_left _ h1
    rw [Nat.pow_succ]; omega
theorem numT_lt (s : ByteArray) (n : Nat) (st : RS) : (numT s n st).1 < 2 ^ n := by
  have := numL_lt s n 0 0 st (by simp)
  simpa [numT] using this
theorem numL_pos (s : ByteArray) (k : Nat) : ∀ v u st, st.pos ≤ 8 * s.size → (numL s k v u st).2.pos ≤ 8 * s.size := by
  induction k with
  | zero => intro v u st h; exact h
  | succ k ih => intro v u st h; exact ih _ _ _ (oneT_pos s st h)
theorem numT_pos (s : ByteArray) (n : Nat) (st : RS) (h : st.pos ≤ 8 * s.size) : (numT s n st).2.pos ≤ 8 * s.size := numL_pos s n _ _ st h
/-- 2 to the power n -/
def pw (n : Nat) : Nat := 2 ^ n
theorem pw_succ (n : Nat) : pw (n + 1) = 2 * pw n := by unfold pw; rw [Nat.pow_succ, Nat.mul_comm]
theorem pw_le (n m : Nat) (h : n ≤ m) : pw n ≤ pw m := Nat.pow_le_pow_right (n := 2) (by omega) h
/-- what length and distance symbols stand for -/
def lenBits (s : Nat) : Nat := if s < 261 then 0 else (s - 261) / 4
def distBits (s : Nat) : Nat := if s < 2 then 0 else (s - 2) / 2
def lenL : Nat → Nat → Nat → Nat
  | 0, _, at_ => at_
  | j + 1, k, at_ => lenL j (k + 1) (at_ + pw (lenBits k))
def distL : Nat → Nat → Nat → Nat
  | 0, _, at_ => at_
  | j + 1, k, at_ => distL j (k + 1) (at_ + pw (distBits k))
def lenT (s : Nat) : Nat × Nat := if s = 285 then (258, 0) else (lenL (s - 257) 257 3, lenBits s)
def distT (s : Nat) : Nat × Nat := (distL s 0 1, distBits s)
theorem lenBits_le (s : Nat) (h : s ≤ 285) : lenBits s ≤ 6 := by unfold lenBits; split <;> omega
theorem distBits_le (s : Nat) (h : s ≤ 29) : distBits s ≤ 13 := by unfold distBits; split <;> omega
/-- the last n bits of a number, the highest first, as signs 0 and 1 -/
def binL : Nat → Nat → List UInt8 → List UInt8
  | 0, _, acc => acc
  | j + 1, v, acc => binL j (v / 2) ((if v % 2 = 1 then 49 else 48) :: acc)
def binT (v n : Nat) : List UInt8 := binL n v []
theorem binL_length (j : Nat) : ∀ v acc, (binL j v acc).length = j + acc.length := by
  induction j with
  | zero => intro v acc; simp [binL]
  | succ j ih => intro v acc; simp only [binL, ih, List.length_cons]; omega
theorem binT_length (v n : Nat) : (binT v n).length = n := by simp [binT, binL_length]
/-- codes as they are made: the list, the next code's value, how long it is, how many rows of 15 bits are begun -/
structure CS where
  cs : List (Nat × List UInt8)
  value : Nat
  long : Nat
  much : Nat
def stepC (L : List Nat) (n s : Nat) (st : CS) : CS :=
  if L.getD s 0 = n then ⟨st.cs ++ [(s, binT (st.value * pw (n - st.long)) n)], st.value * pw (n - st.long) + 1, n, st.much + pw (15 - n)⟩ else st
def innerC (L : List Nat) (n : Nat) : Nat → Nat → CS → CS
  | 0, _, st => st
  | j + 1, s, st => innerC L n j (s + 1) (stepC L n s st)
def outerC (L : List Nat) : Nat → Nat → CS → CS
  | 0, _, st => st
  | j + 1, n, st => outerC L j (n + 1) (innerC L n L.length 0 st)
def codesT (L : List Nat) : CS := outerC L 15 1 ⟨[], 0, 0, 0⟩
/-- what stays within bounds while codes are made -/
def CS.ok (st : CS) (n c : Nat) : Prop := st.long ≤ n ∧ st.value ≤ st.cs.length * pw st.long ∧ st.cs.length ≤ c ∧ st.much ≤ st.cs.length * 16384
theorem CS.ok.mono {st : CS} {n c n' c' : Nat} (h : st.ok n c) (hn : n ≤ n') (hc : c ≤ c') : st.ok n' c' := ⟨Nat.le_trans h.1 hn, h.2.1, Nat.le_trans h.2.2.1 hc, h.2.2.2⟩
theorem pw_pos (n : Nat) : 1 ≤ pw n := Nat.two_pow_pos n
theorem pw_split (a b : Nat) (h : a ≤ b) : pw a * pw (b - a) = pw b := by
  unfold pw; rw [← Nat.pow_add]; congr 1; omega
theorem up_le {st : CS} {n c : Nat} (h : st.ok n c) : st.value * pw (n - st.long) ≤ st.cs.length * pw n := by
  have h2 := Nat.mul_le_mul_right (pw (n - st.long)) h.2.1
  rw [Nat.mul_assoc, pw_split _ _ h.1] at h2
  exact h2
theorem stepC_ok (L : List Nat) (n s c : Nat) (st : CS) (h : st.ok n c) (h1 : 1 ≤ n) : (stepC L n s st).ok n (c + 1) := by
  unfold stepC
  split
  · have hu := up_le h
    have hp := pw_pos n
    have hq : pw (15 - n) ≤ pw 14 := pw_le _ _ (by omega)
    have hq2 : pw 14 = 16384 := rfl
    refine ⟨Nat.le_refl _, ?_, ?_, ?_⟩
    · simp only [List.length_append, List.length_cons, List.length_nil]
      rw [Nat.add_mul]; omega
    · simp only [List.length_append, List.length_cons, List.length_nil]; have := h.2.2.1; omega
    · simp only [List.length_append, List.length_cons, List.length_nil]; have := h.2.2.2; rw [Nat.add_mul]; omega
  · exact h.mono (Nat.le_refl _) (by omega)
theorem innerC_ok (L : List Nat) (n : Nat) (h1 : 1 ≤ n) (j : Nat) : ∀ s st c, st.ok n c → (innerC L n j s st).ok n (c + j) := by
  induction j with
  | zero => intro s st c h; exact h
  | succ j ih => intro s st c h; have := ih (s + 1) _ _ (stepC_ok L n s c st h h1); rw [show c + (j + 1) = c + 1 + j by omega]; exact this
theorem outerC_ok (L : List Nat) (j : Nat) : ∀ n st c, 1 ≤ n → st.ok n c → (outerC L j n st).ok (n + j) (c + j * L.length) := by
  induction j with
  | zero => intro n st c _ h; simpa [outerC] using h
  | succ j ih =>
    intro n st c h1 h
    have := ih (n + 1) _ _ (by omega) ((innerC_ok L n h1 L.length 0 st c h).mono (by omega) (Nat.le_refl _))
    rw [show n + (j + 1) = n + 1 + j by omega, Nat.add_mul, Nat.one_mul, show c + (j * L.length + L.length) = c + L.length + j * L.length by omega]
    exact this
theorem codesT_len (L : List Nat) (h : L.length ≤ 400) : (codesT L).cs.length ≤ 1000000 := by
  have := (outerC_ok L 15 1 ⟨[], 0, 0, 0⟩ 0 (by omega) ⟨by simp, by simp, by simp, by simp⟩).2.2.1
  unfold codesT
  omega
/-- the first code that is this row of signs -/
def findC (cs : List (Nat × List UInt8)) (p : List UInt8) : Option Nat := (cs.find? fun c => c.2 == p).map (·.1)
theorem findC_none (cs : List (Nat × List UInt8)) (p : List UInt8) (h : ∀ j (hj : j < cs.length), (cs[j].2 == p) = false) : findC cs p = none := by
  unfold findC
  rw [Option.map_eq_none_iff, List.find?_eq_none]
  intro x hx
  obtain ⟨j, hj, rfl⟩ := List.getElem_of_mem hx
  simpa using h j hj
theorem findC_some (cs : List (Nat × List UInt8)) (p : List UInt8) (k : Nat) (hk : k < cs.length) (h : ∀ j (hj : j < k), (cs[j].2 == p) = false) (e : (cs[k].2 == p) = true) : findC cs p = some cs[k].1 := by
  unfold findC
  have : cs.find? (fun c => c.2 == p) = some cs[k] := by
    rw [List.find?_eq_some_iff_getElem]
    exact ⟨e, k, hk, rfl, fun j hj => by simpa using h j hj⟩
  rw [this]; rfl
/-- a sign for a bit -/
def sign (b : Nat) : UInt8 := if b = 1 then 49 else 48
/-- the next code's symbol -/
def symL (s : ByteArray) (cs : List (Nat × List UInt8)) : Nat → List UInt8 → RS → Nat × RS
  | 0, _, st => (0, ⟨st.pos, true⟩)
  | k + 1, pre, st => if st.bad = true then (0, ⟨st.pos, true⟩) else
      if (oneT s st).2.bad = true then (0, ⟨(oneT s st).2.pos, true⟩) else
        match findC cs (pre ++ [sign (oneT s st).1]) with
        | some y => (y, (oneT s st).2)
        | none => symL s cs k (pre ++ [sign (oneT s st).1]) (oneT s st).2
def symT (s : ByteArray) (cs : List (Nat × List UInt8)) (st : RS) : Nat × RS := symL s cs 15 [] st
theorem symL_end (s : ByteArray) (cs : List (Nat × List UInt8)) (k : Nat) (pre : List UInt8) (st : RS) (h : st.bad = false) (h2 : (oneT s st).2.bad = true) : symL s cs (k + 1) pre st = (0, ⟨(oneT s st).2.pos, true⟩) := by
  rw [symL, if_neg (by simp [h]), if_pos h2]
theorem symL_hit (s : ByteArray) (cs : List (Nat × List UInt8)) (k : Nat) (pre : List UInt8) (st : RS) (h : st.bad = false) (h2 : (oneT s st).2.bad = false) (y : Nat) (hf : findC cs (pre ++ [sign (oneT s st).1]) = some y) : symL s cs (k + 1) pre st = (y, (oneT s st).2) := by
  rw [symL, if_neg (by simp [h]), if_neg (by simp [h2]), hf]
theorem symL_miss (s : ByteArray) (cs : List (Nat × List UInt8)) (k : Nat) (pre : List UInt8) (st : RS) (h : st.bad = false) (h2 : (oneT s st).2.bad = false) (hf : findC cs (pre ++ [sign (oneT s st).1]) = none) : symL s cs (k + 1) pre st = symL s cs k (pre ++ [sign (oneT s st).1]) (oneT s st).2 := by
  rw [symL, if_neg (by simp [h]), if_neg (by simp [h2]), hf]
theorem symL_bad (s : ByteArray) (cs : List (Nat × List UInt8)) (k : Nat) (pre : List UInt8) (st : RS) (h : st.bad = true) : symL s cs k pre st = (0, ⟨st.pos, true⟩) := by
  cases k with
  | zero => rfl
  | succ k => rw [symL, if_pos h]
/-- the row, and what was put out -/
structure US where
  st : RS
  out : List UInt8
def putT (most : Nat) (x : UInt8) (u : US) : US :=
  if most ≤ u.out.length then ⟨⟨u.st.pos, true⟩, u.out⟩ else if u.st.bad = true then u else ⟨u.st, u.out ++ [x]⟩
theorem putT_full (most : Nat) (x : UInt8) (u : US) (h : most ≤ u.out.length) : putT most x u = ⟨⟨u.st.pos, true⟩, u.out⟩ := if_pos h
theorem putT_bad (most : Nat) (x : UInt8) (u : US) (h : ¬ most ≤ u.out.length) (hb : u.st.bad = true) : putT most x u = u := by unfold putT; rw [if_neg h, if_pos hb]
theorem putT_go (most : Nat) (x : UInt8) (u : US) (h : ¬ most ≤ u.out.length) (hb : u.st.bad = false) : putT most x u = ⟨u.st, u.out ++ [x]⟩ := by unfold putT; rw [if_neg h, if_neg (by simp [hb])]
/-- bytes of a block of sort 0 -/
def stL (s : ByteArray) (most : Nat) : Nat → US → US
  | 0, u => u
  | k + 1, u => if u.st.bad = true then u else stL s most k (putT most (UInt8.ofNat (numT s 8 u.st).1) ⟨(numT s 8 u.st).2, u.out⟩)
theorem stL_bad (s : ByteArray) (most k : Nat) (u : US) (h : u.st.bad = true) : stL s most k u = u := by
  cases k with
  | zero => rfl
  | succ k => rw [stL, if_pos h]
theorem stL_go (s : ByteArray) (most k : Nat) (u : US) (h : u.st.bad = false) : stL s most (k + 1) u = stL s most k (putT most (UInt8.ofNat (numT s 8 u.st).1) ⟨(numT s 8 u.st).2, u.out⟩) := by
  rw [stL, if_neg (by simp [h])]
def alignT (st : RS) : RS := ⟨(st.pos + 7) / 8 * 8, st.bad⟩
/-- both lengths of a block of sort 0 -/
def headT (s : ByteArray) (st : RS) : Nat × RS :=
  ((numT s 16 (alignT st)).1, if (numT s 16 (alignT st)).1 + (numT s 16 (numT s 16 (alignT st)).2).1 = 65535 then (numT s 16 (numT s 16 (alignT st)).2).2 else ⟨(numT s 16 (numT s 16 (alignT st)).2).2.pos, true⟩)
def storedT (s : ByteArray) (most : Nat) (u : US) : US := stL s most (headT s u.st).1 ⟨(headT s u.st).2, u.out⟩
theorem lenL_le (j : Nat) : ∀ k x, k + j ≤ 286 → x ≤ lenL j k x ∧ lenL j k x ≤ x + 64 * j := by
  induction j with
  | zero => intro k x _; exact ⟨Nat.le_refl _, Nat.le_refl _⟩
  | succ j ih =>
    intro k x h
    have hp : pw (lenBits k) ≤ 64 := pw_le _ 6 (lenBits_le k (by omega))
    have := ih (k + 1) (x + pw (lenBits k)) (by omega)
    simp only [lenL]; omega
theorem distL_le (j : Nat) : ∀ k x, k + j ≤ 30 → x ≤ distL j k x ∧ distL j k x ≤ x + 8192 * j := by
  induction j with
  | zero => intro k x _; exact ⟨Nat.le_refl _, Nat.le_refl _⟩
  | succ j ih =>
    intro k x h
    have hp : pw (distBits k) ≤ 8192 := pw_le _ 13 (distBits_le k (by omega))
    have := ih (k + 1) (x + pw (distBits k)) (by omega)
    simp only [distL]; omega
theorem lenT_le (y : Nat) (h1 : 257 ≤ y) (h2 : y ≤ 285) : (lenT y).1 ≤ 2000 ∧ (lenT y).2 ≤ 6 := by
  unfold lenT; split
  · refine ⟨?_, ?_⟩
    · simp
    · simp
  · have h := (lenL_le (y - 257) 257 3 (by omega)).2
    have h' := lenBits_le y h2
    dsimp only
    exact ⟨by omega, h'⟩
theorem distT_le (d : Nat) (h : d ≤ 29) : 1 ≤ (distT d).1 ∧ (distT d).1 ≤ 245761 ∧ (distT d).2 ≤ 13 := by
  have := distL_le d 0 1 (by omega)
  have h' := distBits_le d h
  unfold distT
  dsimp only
  exact ⟨this.1, by omega, h'⟩
/-- bytes that come again -/
def cpL (most far : Nat) : Nat → US → US
  | 0, u => u
  | k + 1, u => if u.st.bad = true then u else cpL most far k (putT most (u.out.getD (u.out.length - far) 0) u)
theorem cpL_bad (most far k : Nat) (u : US) (h : u.st.bad = true) : cpL most far k u = u := by
  cases k with
  | zero => rfl
  | succ k => rw [cpL, if_pos h]
theorem cpL_go (most far k : Nat) (u : US) (h : u.st.bad = false) : cpL most far (k + 1) u = cpL most far k (putT most (u.out.getD (u.out.length - far) 0) u) := by
  rw [cpL, if_neg (by simp [h])]
/-- where the row stands behind a length and a distance; how many bytes, how far back; does the block end here? -/
structure Mt where
  st : RS
  n : Nat
  far : Nat
  stop : Bool
def matchT (s : ByteArray) (win len : Nat) (B : List (Nat × List UInt8)) (y : Nat) (st : RS) : Mt :=
  let r1 := numT s (lenT y).2 st
  let r2 := symT s B r1.2
  if 29 < r2.1 then ⟨⟨r2.2.pos, true⟩, 0, 0, true⟩ else
    let r3 := numT s (distT r2.1).2 r2.2
    let far := (distT r2.1).1 + r3.1
    ⟨if win < far ∨ len < far then ⟨r3.2.pos, true⟩ else r3.2, (lenT y).1 + r1.1, far, false⟩
theorem matchT_far (s : ByteArray) (win len : Nat) (B : List (Nat × List UInt8)) (y : Nat) (st : RS) (h : 29 < (symT s B (numT s (lenT y).2 st).2).1) :
    matchT s win len B y st = ⟨⟨(symT s B (numT s (lenT y).2 st).2).2.pos, true⟩, 0, 0, true⟩ := by
  unfold matchT; rw [if_pos h]
theorem matchT_go (s : ByteArray) (win len : Nat) (B : List (Nat × List UInt8)) (y : Nat) (st : RS) (h : ¬ 29 < (symT s B (numT s (lenT y).2 st).2).1) :
    matchT s win len B y st = ⟨if win < (distT (symT s B (numT s (lenT y).2 st).2).1).1 + (numT s (distT (symT s B (numT s (lenT y).2 st).2).1).2 (symT s B (numT s (lenT y).2 st).2).2).1 ∨ len < (distT (symT s B (numT s (lenT y).2 st).2).1).1 + (numT s (distT (symT s B (numT s (lenT y).2 st).2).1).2 (symT s B (numT s (lenT y).2 st).2).2).1 then ⟨(numT s (distT (symT s B (numT s (lenT y).2 st).2).1).2 (symT s B (numT s (lenT y).2 st).2).2).2.pos, true⟩ else (numT s (distT (symT s B (numT s (lenT y).2 st).2).1).2 (symT s B (numT s (lenT y).2 st).2).2).2,
      (lenT y).1 + (numT s (lenT y).2 st).1, (distT (symT s B (numT s (lenT y).2 st).2).1).1 + (numT s (distT (symT s B (numT s (lenT y).2 st).2).1).2 (symT s B (numT s (lenT y).2 st).2).2).1, false⟩ := by
  unfold matchT; rw [if_neg h]
/-- symbols up to 256 -/
def symsF (s : ByteArray) (win most : Nat) (A B : List (Nat × List UInt8)) : Nat → US → US
  | 0, u => u
  | f + 1, u => if u.st.bad = true then u else
      let r := symT s A u.st
      if r.2.bad = true then ⟨r.2, u.out⟩
      else if r.1 < 256 then symsF s win most A B f (putT most (UInt8.ofNat r.1) ⟨r.2, u.out⟩)
      else if r.1 = 256 then ⟨r.2, u.out⟩
      else if 285 < r.1 then ⟨⟨r.2.pos, true⟩, u.out⟩
      else
        let m := matchT s win u.out.length B r.1 r.2
        if m.stop = true then ⟨m.st, u.out⟩
        else symsF s win most A B f (cpL most m.far m.n ⟨m.st, u.out⟩)
theorem symsF_bad (s : ByteArray) (win most : Nat) (A B : List (Nat × List UInt8)) (f : Nat) (u : US) (h : u.st.bad = true) : symsF s win most A B f u = u := by
  cases f with
  | zero => rfl
  | succ f => rw [symsF, if_pos h]
theorem symsF_end (s : ByteArray) (win most : Nat) (A B : List (Nat × List UInt8)) (f : Nat) (u : US) (h : u.st.bad = false) (h2 : (symT s A u.st).2.bad = true) : symsF s win most A B (f + 1) u = ⟨(symT s A u.st).2, u.out⟩ := by
  rw [symsF, if_neg (by simp [h]), if_pos h2]
theorem symsF_put (s : ByteArray) (win most : Nat) (A B : List (Nat × List UInt8)) (f : Nat) (u : US) (h : u.st.bad = false) (h2 : (symT s A u.st).2.bad = false) (h3 : (symT s A u.st).1 < 256) :
    symsF s win most A B (f + 1) u = symsF s win most A B f (putT most (UInt8.ofNat (symT s A u.st).1) ⟨(symT s A u.st).2, u.out⟩) := by
  rw [symsF, if_neg (by simp [h]), if_neg (by simp [h2]), if_pos h3]
theorem symsF_stop (s : ByteArray) (win most : Nat) (A B : List (Nat × List UInt8)) (f : Nat) (u : US) (h : u.st.bad = false) (h2 : (symT s A u.st).2.bad = false) (h3 : (symT s A u.st).1 = 256) :
    symsF s win most A B (f + 1) u = ⟨(symT s A u.st).2, u.out⟩ := by
  rw [symsF, if_neg (by simp [h]), if_neg (by simp [h2]), if_neg (by omega), if_pos h3]
theorem symsF_none (s : ByteArray) (win most : Nat) (A B : List (Nat × List UInt8)) (f : Nat) (u : US) (h : u.st.bad = false) (h2 : (symT s A u.st).2.bad = false) (h3 : 285 < (symT s A u.st).1) :
    symsF s win most A B (f + 1) u = ⟨⟨(symT s A u.st).2.pos, true⟩, u.out⟩ := by
  rw [symsF, if_neg (by simp [h]), if_neg (by simp [h2]), if_neg (by omega), if_neg (by omega), if_pos h3]
theorem symsF_far (s : ByteArray) (win most : Nat) (A B : List (Nat × List UInt8)) (f : Nat) (u : US) (h : u.st.bad = false) (h2 : (symT s A u.st).2.bad = false) (h3 : 257 ≤ (symT s A u.st).1) (h4 : (symT s A u.st).1 ≤ 285)
    (h5 : (matchT s win u.out.length B (symT s A u.st).1 (symT s A u.st).2).stop = true) : symsF s win most A B (f + 1) u = ⟨(matchT s win u.out.length B (symT s A u.st).1 (symT s A u.st).2).st, u.out⟩ := by
  rw [symsF, if_neg (by simp [h]), if_neg (by simp [h2]), if_neg (by omega), if_neg (by omega), if_neg (by omega), if_pos h5]
theorem symsF_copy (s : ByteArray) (win most : Nat) (A B : List (Nat × List UInt8)) (f : Nat) (u : US) (h : u.st.bad = false) (h2 : (symT s A u.st).2.bad = false) (h3 : 257 ≤ (symT s A u.st).1) (h4 : (symT s A u.st).1 ≤ 285)
    (h5 : (matchT s win u.out.length B (symT s A u.st).1 (symT s A u.st).2).stop = false) : symsF s win most A B (f + 1) u = symsF s win most A B f (cpL most (matchT s win u.out.length B (symT s A u.st).1 (symT s A u.st).2).far (matchT s win u.out.length B (symT s A u.st).1 (symT s A u.st).2).n ⟨(matchT s win u.out.length B (symT s A u.st).1 (symT s A u.st).2).st, u.out⟩) := by
  rw [symsF, if_neg (by simp [h]), if_neg (by simp [h2]), if_neg (by omega), if_neg (by omega), if_neg (by omega), if_neg (by simp [h5])]
/-- a bit is taken, or something is bad -/
theorem oneT_more (s : ByteArray) (st : RS) : (oneT s st).2.bad = true ∨ (oneT s st).2.pos = st.pos + 1 := by
  unfold oneT; split
  · exact .inl rfl
  · exact .inr rfl
theorem oneT_ge (s : ByteArray) (st : RS) : st.pos ≤ (oneT s st).2.pos := by
  unfold oneT; split
  · exact Nat.le_refl _
  · exact Nat.le_succ _
theorem numL_ge (s : ByteArray) (k : Nat) : ∀ v u st, st.pos ≤ (numL s k v u st).2.pos := by
  induction k with
  | zero => intro v u st; exact Nat.le_refl _
  | succ k ih => intro v u st; exact Nat.le_trans (oneT_ge s st) (ih _ _ _)
theorem numT_ge (s : ByteArray) (n : Nat) (st : RS) : st.pos ≤ (numT s n st).2.pos := numL_ge s n _ _ st
theorem symL_ge (s : ByteArray) (cs : List (Nat × List UInt8)) (k : Nat) : ∀ pre st, st.pos ≤ (symL s cs k pre st).2.pos := by
  induction k with
  | zero => intro pre st; exact Nat.le_refl _
  | succ k ih =>
    intro pre st
    rw [symL]
    split
    · exact Nat.le_refl _
    · split
      · exact oneT_ge s st
      · split
        · exact oneT_ge s st
        · exact Nat.le_trans (oneT_ge s st) (ih _ _)
theorem symT_ge (s : ByteArray) (cs : List (Nat × List UInt8)) (st : RS) : st.pos ≤ (symT s cs st).2.pos := symL_ge s cs 15 [] st
theorem symT_more (s : ByteArray) (cs : List (Nat × List UInt8)) (st : RS) : (symT s cs st).2.bad = true ∨ st.pos + 1 ≤ (symT s cs st).2.pos := by
  unfold symT
  rw [symL]
  split
  · exact .inl rfl
  · split
    · exact .inl rfl
    · rename_i h
      have hm : (oneT s st).2.pos = st.pos + 1 := (oneT_more s st).resolve_left h
      split
      · exact .inr (by rw [hm]; exact Nat.le_refl _)
      · exact .inr (by rw [← hm]; exact symL_ge _ _ _ _ _)
end Go.Proofs.YtephkcdbnogdhaaGreatDoor.Rf
/- The document's block of sort 2, its blocks, and Inflate, turned word for word into functions on plain data. Nothing of the program is named here. -/
namespace Go.Proofs.YtephkcdbnogdhaaGreatDoor.Rf
/-- is just one length not 0? -/
def cnt (L : List Nat) : Nat := (L.filter fun x => decide (0 < x)).length
def singleT (L : List Nat) : Bool := cnt L == 1
theorem cnt_snoc (L : List Nat) (x : Nat) : cnt (L ++ [x]) = cnt L + if 0 < x then 1 else 0 := by
  unfold cnt; rw [List.filter_append]
  by_cases h : 0 < x <;> simp [h]
theorem cnt_le (L : List Nat) : cnt L ≤ L.length := List.length_filter_le _ _
/-- the order in which the lengths of the nineteen come -/
def order : List Nat := [16, 17, 18, 0, 8, 7, 9, 6, 10, 5, 11, 4, 12, 3, 13, 2, 14, 1, 15]
/-- the lengths of the nineteen -/
def smallL (s : ByteArray) : Nat → Nat → List Nat → RS → List Nat × RS
  | 0, _, L, st => (L, st)
  | j + 1, i, L, st => smallL s j (i + 1) (L.set (order.getD i 0) (numT s 3 st).1) (numT s 3 st).2
/-- one symbol of the lengths: which length, how often, where the row stands; .inr: 16 with none ahead -/
def lenStep (s : ByteArray) (L : List Nat) (y : Nat) (st : RS) : (Nat × Nat × RS) ⊕ RS :=
  if y = 16 then (if L.length = 0 then .inr ⟨(numT s 2 st).2.pos, true⟩ else .inl (L.getD (L.length - 1) 0, 3 + (numT s 2 st).1, (numT s 2 st).2))
  else if y = 17 then .inl (0, 3 + (numT s 3 st).1, (numT s 3 st).2)
  else if y = 18 then .inl (0, 11 + (numT s 7 st).1, (numT s 7 st).2)
  else .inl (y, 1, st)
/-- the lengths of literal and distance symbols -/
def lensF (s : ByteArray) (N : Nat) (cs : List (Nat × List UInt8)) : Nat → List Nat → RS → List Nat × RS
  | 0, L, st => (L, st)
  | f + 1, L, st => if L.length < N then (if st.bad = true then (L, st) else
      match lenStep s L (symT s cs st).1 (symT s cs st).2 with
      | .inl (v, k, st') => lensF s N cs f (L ++ List.replicate k v) st'
      | .inr st' => (L, st')) else (L, st)
theorem lensF_full (s : ByteArray) (N : Nat) (cs : List (Nat × List UInt8)) (f : Nat) (L : List Nat) (st : RS) (h : ¬ L.length < N) : lensF s N cs f L st = (L, st) := by
  cases f with
  | zero => rfl
  | succ f => rw [lensF, if_neg h]
theorem lensF_bad (s : ByteArray) (N : Nat) (cs : List (Nat × List UInt8)) (f : Nat) (L : List Nat) (st : RS) (h : st.bad = true) : lensF s N cs f L st = (L, st) := by
  cases f with
  | zero => rfl
  | succ f =>
    rw [lensF]
    by_cases hl : L.length < N
    · rw [if_pos hl, if_pos h]
    · rw [if_neg hl]
theorem lensF_go (s : ByteArray) (N : Nat) (cs : List (Nat × List UInt8)) (f : Nat) (L : List Nat) (st : RS) (h : L.length < N) (hb : st.bad = false) (v k : Nat) (st' : RS) (e : lenStep s L (symT s cs st).1 (symT s cs st).2 = .inl (v, k, st')) :
    lensF s N cs (f + 1) L st = lensF s N cs f (L ++ List.replicate k v) st' := by
  rw [lensF, if_pos h, if_neg (by simp [hb]), e]
theorem lensF_stop (s : ByteArray) (N : Nat) (cs : List (Nat × List UInt8)) (f : Nat) (L : List Nat) (st : RS) (h : L.length < N) (hb : st.bad = false) (st' : RS) (e : lenStep s L (symT s cs st).1 (symT s cs st).2 = .inr st') :
    lensF s N cs (f + 1) L st = (L, st') := by
  rw [lensF, if_pos h, if_neg (by simp [hb]), e]
/-- which symbols a list of codes has -/
theorem innerC_sym (L : List Nat) (n N : Nat) (j : Nat) : ∀ s st, s + j ≤ N → (∀ c ∈ st.cs, c.1 < N) → ∀ c ∈ (innerC L n j s st).cs, c.1 < N := by
  induction j with
  | zero => intro s st _ h; exact h
  | succ j ih =>
    intro s st hs h
    refine ih (s + 1) _ (by omega) ?_
    unfold stepC
    split
    · intro c hc
      rcases List.mem_append.1 hc with hc | hc
      · exact h c hc
      · simp at hc; subst hc; show s < N; omega
    · exact h
theorem outerC_sym (L : List Nat) (j : Nat) : ∀ n st, (∀ c ∈ st.cs, c.1 < L.length) → ∀ c ∈ (outerC L j n st).cs, c.1 < L.length := by
  induction j with
  | zero => intro n st h; exact h
  | succ j ih => intro n st h; exact ih _ _ (innerC_sym L n L.length L.length 0 st (by omega) h)
theorem codesT_sym (L : List Nat) : ∀ c ∈ (codesT L).cs, c.1 < L.length := outerC_sym L 15 1 _ (by intro c hc; cases hc)
theorem findC_mem (cs : List (Nat × List UInt8)) (p : List UInt8) (y N : Nat) (h : ∀ c ∈ cs, c.1 < N) (e : findC cs p = some y) : y < N := by
  unfold findC at e
  obtain ⟨c, hc, rfl⟩ := Option.map_eq_some_iff.1 e
  exact h c (List.mem_of_find?_eq_some hc)
theorem symL_sym (s : ByteArray) (cs : List (Nat × List UInt8)) (N : Nat) (hN : 0 < N) (h : ∀ c ∈ cs, c.1 < N) (k : Nat) : ∀ pre st, (symL s cs k pre st).1 < N := by
  induction k with
  | zero => intro pre st; exact hN
  | succ k ih =>
    intro pre st
    rw [symL]
    split
    · exact hN
    · split
      · exact hN
      · split
        · rename_i y e; exact findC_mem cs _ y N h e
        · exact ih _ _
theorem symT_sym (s : ByteArray) (L : List Nat) (st : RS) (h : 0 < L.length) : (symT s (codesT L).cs st).1 < L.length := symL_sym s _ _ h (codesT_sym L) 15 [] st
/-- a block of sort 2: how many of each; what is too many is bad -/
def hdrSt (a b : Nat) (st : RS) : RS := if 286 < a ∨ 30 < b then ⟨st.pos, true⟩ else st
def smSt (m : Nat) (st : RS) : RS := if m = 32768 then st else ⟨st.pos, true⟩
def loneT (a : Nat) (L : List Nat) : Bool := (codesT (L.take a)).much == 16384 && L.getD 256 0 == 1
def noneT (a : Nat) (L : List Nat) : Bool := (codesT (L.drop a)).much == 0 || ((codesT (L.drop a)).much == 16384 && singleT (L.drop a))
def wrongT (a : Nat) (L : List Nat) : Bool := L.getD 256 0 == 0 || ((codesT (L.take a)).much != 32768 && !(loneT a L && singleT (L.take a))) || ((codesT (L.drop a)).much != 32768 && !noneT a L)
def finT (s : ByteArray) (win most a b : Nat) (out : List UInt8) (L : List Nat) (st : RS) : US :=
  if st.bad = true ∨ L.length ≠ a + b then ⟨⟨st.pos, true⟩, out⟩ else
  if wrongT a L = true then ⟨⟨st.pos, true⟩, out⟩ else symsF s win most (codesT (L.take a)).cs (codesT (L.drop a)).cs (8 * s.size + 1) ⟨st, out⟩
def lensT (s : ByteArray) (a b n : Nat) (st : RS) : List Nat × RS :=
  lensF s (a + b) (codesT (smallL s n 0 (List.replicate 19 0) st).1).cs (a + b + 1) [] (smSt (codesT (smallL s n 0 (List.replicate 19 0) st).1).much (smallL s n 0 (List.replicate 19 0) st).2)
def ownT (s : ByteArray) (win most : Nat) (u : US) : US :=
  let r1 := numT s 5 u.st
  let r2 := numT s 5 r1.2
  let r3 := numT s 4 r2.2
  let l := lensT s (r1.1 + 257) (r2.1 + 1) (r3.1 + 4) (hdrSt (r1.1 + 257) (r2.1 + 1) r3.2)
  finT s win most (r1.1 + 257) (r2.1 + 1) u.out l.1 l.2
theorem smallL_len (s : ByteArray) (j : Nat) : ∀ i L st, (smallL s j i L st).1.length = L.length := by
  induction j with
  | zero => intro i L st; rfl
  | succ j ih => intro i L st; simp only [smallL]; rw [ih]; simp
theorem smallL_le (s : ByteArray) (j : Nat) : ∀ i L st, (∀ x ∈ L, x ≤ 15) → ∀ x ∈ (smallL s j i L st).1, x ≤ 15 := by
  induction j with
  | zero => intro i L st h; exact h
  | succ j ih =>
    intro i L st h
    refine ih _ _ _ (fun x hx => ?_)
    rcases List.mem_or_eq_of_mem_set hx with hx | hx
    · exact h x hx
    · subst hx; have := numT_lt s 3 st; omega
theorem getD_le (L : List Nat) (N : Nat) (h : ∀ x ∈ L, x ≤ N) (i : Nat) : L.getD i 0 ≤ N := by
  by_cases hi : i < L.length
  · simp only [List.getD, List.getElem?_eq_getElem hi, Option.getD_some]; exact h _ (List.getElem_mem hi)
  · simp [List.getD, List.getElem?_eq_none (show L.length ≤ i by omega)]
theorem finT_bad (s : ByteArray) (win most a b : Nat) (out : List UInt8) (L : List Nat) (st : RS) (h : st.bad = true ∨ L.length ≠ a + b) : finT s win most a b out L st = ⟨⟨st.pos, true⟩, out⟩ := if_pos h
theorem finT_wrong (s : ByteArray) (win most a b : Nat) (out : List UInt8) (L : List Nat) (st : RS) (h : st.bad = false) (hl : L.length = a + b) (hw : wrongT a L = true) : finT s win most a b out L st = ⟨⟨st.pos, true⟩, out⟩ := by
  unfold finT; rw [if_neg (by simp [h, hl]), if_pos hw]
theorem finT_go (s : ByteArray) (win most a b : Nat) (out : List UInt8) (L : List Nat) (st : RS) (h : st.bad = false) (hl : L.length = a + b) (hw : wrongT a L = false) : finT s win most a b out L st = symsF s win most (codesT (L.take a)).cs (codesT (L.drop a)).cs (8 * s.size + 1) ⟨st, out⟩ := by
  unfold finT; rw [if_neg (by simp [h, hl]), if_neg (by simp [hw])]
theorem codesT_much (L : List Nat) (h : L.length ≤ 400) : (codesT L).much ≤ 1000000000 := by
  have h1 := (outerC_ok L 15 1 ⟨[], 0, 0, 0⟩ 0 (by omega) ⟨by simp, by simp, by simp, by simp⟩)
  have h2 := h1.2.2.1
  have h3 := h1.2.2.2
  unfold codesT
  omega
end Go.Proofs.YtephkcdbnogdhaaGreatDoor.Rf
/- The document's blocks and Inflate as functions on plain data; the row never goes back. Nothing of the program is named here. -/
namespace Go.Proofs.YtephkcdbnogdhaaGreatDoor.Rf
theorem putT_pos (most : Nat) (x : UInt8) (u : US) : (putT most x u).st.pos = u.st.pos := by
  unfold putT; split
  · rfl
  · split <;> rfl
theorem stL_ge (s : ByteArray) (most k : Nat) : ∀ u, u.st.pos ≤ (stL s most k u).st.pos := by
  induction k with
  | zero => intro u; exact Nat.le_refl _
  | succ k ih =>
    intro u
    rw [stL]; split
    · exact Nat.le_refl _
    · refine Nat.le_trans ?_ (ih _)
      rw [putT_pos]; exact numT_ge s 8 u.st
theorem alignT_ge (st : RS) : st.pos ≤ (alignT st).pos := by unfold alignT; show st.pos ≤ (st.pos + 7) / 8 * 8; omega
theorem headT_ge (s : ByteArray) (st : RS) : st.pos ≤ (headT s st).2.pos := by
  have h : st.pos ≤ (numT s 16 (numT s 16 (alignT st)).2).2.pos := Nat.le_trans (alignT_ge st) (Nat.le_trans (numT_ge s 16 _) (numT_ge s 16 _))
  unfold headT
  dsimp only
  split <;> exact h
theorem storedT_ge (s : ByteArray) (most : Nat) (u : US) : u.st.pos ≤ (storedT s most u).st.pos := Nat.le_trans (headT_ge s u.st) (stL_ge s most _ ⟨(headT s u.st).2, u.out⟩)
theorem cpL_pos (most far k : Nat) : ∀ u, (cpL most far k u).st.pos = u.st.pos := by
  induction k with
  | zero => intro u; rfl
  | succ k ih =>
    intro u
    rw [cpL]; split
    · rfl
    · rw [ih, putT_pos]
theorem matchT_ge (s : ByteArray) (win len : Nat) (B : List (Nat × List UInt8)) (y : Nat) (st : RS) : st.pos ≤ (matchT s win len B y st).st.pos := by
  have h1 := numT_ge s (lenT y).2 st
  have h2 := symT_ge s B (numT s (lenT y).2 st).2
  unfold matchT
  dsimp only
  split
  · exact Nat.le_trans h1 h2
  · have h3 := numT_ge s (distT (symT s B (numT s (lenT y).2 st).2).1).2 (symT s B (numT s (lenT y).2 st).2).2
    dsimp only
    split <;> exact Nat.le_trans h1 (Nat.le_trans h2 h3)
theorem symsF_ge (s : ByteArray) (win most : Nat) (A B : List (Nat × List UInt8)) (f : Nat) : ∀ u, u.st.pos ≤ (symsF s win most A B f u).st.pos := by
  induction f with
  | zero => intro u; exact Nat.le_refl _
  | succ f ih =>
    intro u
    have h1 := symT_ge s A u.st
    rw [symsF]
    dsimp only
    split
    · exact Nat.le_refl _
    · split
      · exact h1
      · split
        · refine Nat.le_trans ?_ (ih _); rw [putT_pos]; exact h1
        · split
          · exact h1
          · split
            · exact h1
            · have h2 := matchT_ge s win u.out.length B (symT s A u.st).1 (symT s A u.st).2
              split
              · exact Nat.le_trans h1 h2
              · refine Nat.le_trans ?_ (ih _); rw [cpL_pos]; exact Nat.le_trans h1 h2
theorem smallL_ge (s : ByteArray) (j : Nat) : ∀ i L st, st.pos ≤ (smallL s j i L st).2.pos := by
  induction j with
  | zero => intro i L st; exact Nat.le_refl _
  | succ j ih => intro i L st; exact Nat.le_trans (numT_ge s 3 st) (ih _ _ _)
theorem lensF_ge (s : ByteArray) (N : Nat) (cs : List (Nat × List UInt8)) (f : Nat) : ∀ L st, st.pos ≤ (lensF s N cs f L st).2.pos := by
  induction f with
  | zero => intro L st; exact Nat.le_refl _
  | succ f ih =>
    intro L st
    have h1 := symT_ge s cs st
    rw [lensF]
    split
    · split
      · exact Nat.le_refl _
      · have hs : ∀ y zst, (match lenStep s L y zst with | .inl (_, _, st') => zst.pos ≤ st'.pos | .inr st' => zst.pos ≤ st'.pos) := by
          intro y zst
          unfold lenStep
          by_cases h16 : y = 16
          · rw [if_pos h16]
            by_cases h0 : L.length = 0
            · rw [if_pos h0]; exact numT_ge s 2 zst
            · rw [if_neg h0]; exact numT_ge s 2 zst
          · rw [if_neg h16]
            by_cases h17 : y = 17
            · rw [if_pos h17]; exact numT_ge s 3 zst
            · rw [if_neg h17]
              by_cases h18 : y = 18
              · rw [if_pos h18]; exact numT_ge s 7 zst
              · rw [if_neg h18]; exact Nat.le_refl _
        have h2 := hs (symT s cs st).1 (symT s cs st).2
        split
        · rename_i v k st' e; rw [e] at h2; exact Nat.le_trans h1 (Nat.le_trans h2 (ih _ _))
        · rename_i st' e; rw [e] at h2; exact Nat.le_trans h1 h2
    · exact Nat.le_refl _
theorem hdrSt_pos (a b : Nat) (st : RS) : (hdrSt a b st).pos = st.pos := by unfold hdrSt; split <;> rfl
theorem smSt_pos (m : Nat) (st : RS) : (smSt m st).pos = st.pos := by unfold smSt; split <;> rfl
theorem finT_ge (s : ByteArray) (win most a b : Nat) (out : List UInt8) (L : List Nat) (st : RS) : st.pos ≤ (finT s win most a b out L st).st.pos := by
  unfold finT; split
  · exact Nat.le_refl _
  · split
    · exact Nat.le_refl _
    · exact symsF_ge s win most _ _ _ ⟨st, out⟩
theorem lensT_ge (s : ByteArray) (a b n : Nat) (st : RS) : st.pos ≤ (lensT s a b n st).2.pos := by
  unfold lensT
  refine Nat.le_trans ?_ (lensF_ge s _ _ _ _ _)
  rw [smSt_pos]; exact smallL_ge s _ _ _ _
theorem ownT_ge (s : ByteArray) (win most : Nat) (u : US) : u.st.pos ≤ (ownT s win most u).st.pos := by
  unfold ownT
  dsimp only
  refine Nat.le_trans ?_ (finT_ge s win most _ _ u.out _ _)
  refine Nat.le_trans ?_ (lensT_ge s _ _ _ _)
  rw [hdrSt_pos]
  exact Nat.le_trans (numT_ge s 5 u.st) (Nat.le_trans (numT_ge s 5 _) (numT_ge s 4 _))
theorem oneT_keep (s : ByteArray) (st : RS) (h : st.bad = true) : (oneT s st).2.bad = true := by rw [oneT_bad s st (.inl h)]
theorem numL_keep (s : ByteArray) (k : Nat) : ∀ v u st, st.bad = true → (numL s k v u st).2.bad = true := by
  induction k with
  | zero => intro v u st h; exact h
  | succ k ih => intro v u st h; exact ih _ _ _ (oneT_keep s st h)
theorem numT_keep (s : ByteArray) (n : Nat) (st : RS) (h : st.bad = true) : (numT s n st).2.bad = true := numL_keep s n _ _ st h
/-- the fixed codes' lengths -/
def fixLen (i : Nat) : Nat := if 144 ≤ i ∧ i < 256 then 9 else if 256 ≤ i ∧ i < 280 then 7 else 8
def fixList : List Nat := (List.range 288).map fixLen
/-- a block behind its head -/
def sortT (s : ByteArray) (win most : Nat) (y : Nat) (u : US) : US :=
  if u.st.bad = true then u else if y = 0 then storedT s most u else if y = 1 then symsF s win most (codesT fixList).cs (codesT (List.replicate 32 5)).cs (8 * s.size + 1) u
  else if y = 2 then ownT s win most u else ⟨⟨u.st.pos, true⟩, u.out⟩
theorem sortT_ge (s : ByteArray) (win most y : Nat) (u : US) : u.st.pos ≤ (sortT s win most y u).st.pos := by
  unfold sortT
  split
  · exact Nat.le_refl _
  · split
    · exact storedT_ge s most u
    · split
      · exact symsF_ge s win most _ _ _ u
      · split
        · exact ownT_ge s win most u
        · exact Nat.le_refl _
/-- one block: the bit that says whether it is the last one, and what is behind it -/
def blkT (s : ByteArray) (win most : Nat) (u : US) : Nat × US :=
  ((oneT s u.st).1, sortT s win most (numT s 2 (oneT s u.st).2).1 ⟨(numT s 2 (oneT s u.st).2).2, u.out⟩)
def blkF (s : ByteArray) (win most : Nat) : Nat → US → US
  | 0, u => u
  | f + 1, u => if u.st.bad = true then u else if (blkT s win most u).1 = 0 then blkF s win most f (blkT s win most u).2 else (blkT s win most u).2
theorem blkF_bad (s : ByteArray) (win most f : Nat) (u : US) (h : u.st.bad = true) : blkF s win most f u = u := by
  cases f with
  | zero => rfl
  | succ f => rw [blkF, if_pos h]
theorem blkF_go (s : ByteArray) (win most f : Nat) (u : US) (h : u.st.bad = false) (h2 : (blkT s win most u).1 = 0) : blkF s win most (f + 1) u = blkF s win most f (blkT s win most u).2 := by
  rw [blkF, if_neg (by simp [h]), if_pos h2]
theorem blkF_end (s : ByteArray) (win most f : Nat) (u : US) (h : u.st.bad = false) (h2 : (blkT s win most u).1 ≠ 0) : blkF s win most (f + 1) u = (blkT s win most u).2 := by
  rw [blkF, if_neg (by simp [h]), if_neg h2]
end Go.Proofs.YtephkcdbnogdhaaGreatDoor.Rf
/- A row of bits as numbers: what several bits are together. Nothing of the program is named here. -/
namespace Go.Proofs.YtephkcdbnogdhaaGreatDoor.Rf
/-- bit p of a text -/
def bitP (s : ByteArray) (p : Nat) : Nat := bitAt (byteAt s (p / 8)) (p % 8)
theorem bitP_le (s : ByteArray) (p : Nat) : bitP s p ≤ 1 := bitAt_le _ _
/-- n bits from p on, the lowest first -/
def bitsV (s : ByteArray) (p : Nat) : Nat → Nat
  | 0 => 0
  | n + 1 => bitsV s p n + 2 ^ n * bitP s (p + n)
theorem bitsV_lt (s : ByteArray) (p n : Nat) : bitsV s p n < 2 ^ n := by
  induction n with
  | zero => simp [bitsV]
  | succ n ih =>
    have h := bitP_le s (p + n)
    have h2 : 2 ^ n * bitP s (p + n) ≤ 2 ^ n * 1 := Nat.mul_le_mul_left _ h
    rw [bitsV, Nat.pow_succ]; omega
theorem bitsV_add (s : ByteArray) (p a b : Nat) : bitsV s p (a + b) = bitsV s p a + 2 ^ a * bitsV s (p + a) b := by
  induction b with
  | zero => simp [bitsV]
  | succ b ih =>
    rw [← Nat.add_assoc, bitsV, ih, bitsV, Nat.mul_add, ← Nat.mul_assoc, ← Nat.pow_add, Nat.add_assoc, Nat.add_assoc p a b]
theorem bitsV_mod (s : ByteArray) (p a c : Nat) (h : a ≤ c) : bitsV s p c % 2 ^ a = bitsV s p a := by
  have e := bitsV_add s p a (c - a)
  rw [show a + (c - a) = c by omega] at e
  rw [e, Nat.add_mul_mod_self_left, Nat.mod_eq_of_lt (bitsV_lt s p a)]
theorem bitsV_div (s : ByteArray) (p a c : Nat) (h : a ≤ c) : bitsV s p c / 2 ^ a = bitsV s (p + a) (c - a) := by
  have e := bitsV_add s p a (c - a)
  rw [show a + (c - a) = c by omega] at e
  rw [e, Nat.add_mul_div_left _ _ (Nat.two_pow_pos a), Nat.div_eq_of_lt (bitsV_lt s p a), Nat.zero_add]
theorem eight_bits (v : Nat) (h : v ≤ 255) : bitAt v 0 + 2 * bitAt v 1 + 4 * bitAt v 2 + 8 * bitAt v 3 + 16 * bitAt v 4 + 32 * bitAt v 5 + 64 * bitAt v 6 + 128 * bitAt v 7 = v := by
  simp only [bitAt]
  have e0 : (2 : Nat) ^ 0 = 1 := rfl
  have e1 : (2 : Nat) ^ 1 = 2 := rfl
  have e2 : (2 : Nat) ^ 2 = 4 := rfl
  have e3 : (2 : Nat) ^ 3 = 8 := rfl
  have e4 : (2 : Nat) ^ 4 = 16 := rfl
  have e5 : (2 : Nat) ^ 5 = 32 := rfl
  have e6 : (2 : Nat) ^ 6 = 64 := rfl
  have e7 : (2 : Nat) ^ 7 = 128 := rfl
  rw [e0, e1, e2, e3, e4, e5, e6, e7]
  omega
theorem bitsV_byte (s : ByteArray) (p t : Nat) (h : p = 8 * t) : bitsV s p 8 = byteAt s t := by
  have hk : ∀ k, k < 8 → bitP s (p + k) = bitAt (byteAt s t) k := fun k hk => by
    unfold bitP
    rw [show (p + k) / 8 = t by omega, show (p + k) % 8 = k by omega]
  simp only [bitsV]
  rw [hk 0 (by omega), hk 1 (by omega), hk 2 (by omega), hk 3 (by omega), hk 4 (by omega), hk 5 (by omega), hk 6 (by omega), hk 7 (by omega)]
  have h8 := eight_bits (byteAt s t) (byteAt_lt s t)
  have e0 : (2 : Nat) ^ 0 = 1 := rfl
  have e1 : (2 : Nat) ^ 1 = 2 := rfl
  have e2 : (2 : Nat) ^ 2 = 4 := rfl
  have e3 : (2 : Nat) ^ 3 = 8 := rfl
  have e4 : (2 : Nat) ^ 4 = 16 := rfl
  have e5 : (2 : Nat) ^ 5 = 32 := rfl
  have e6 : (2 : Nat) ^ 6 = 64 := rfl
  have e7 : (2 : Nat) ^ 7 = 128 := rfl
  rw [e0, e1, e2, e3, e4, e5, e6, e7]
  omega
/-- a byte more behind whole bytes -/
theorem bitsV_more (s : ByteArray) (p c t : Nat) (h : p + c = 8 * t) : bitsV s p (c + 8) = bitsV s p c + byteAt s t * 2 ^ c := by
  rw [bitsV_add, bitsV_byte s (p + c) t h, Nat.mul_comm]
theorem numL_ok (s : ByteArray) (k : Nat) : ∀ v i p, p + k ≤ 8 * s.size → numL s k v (2 ^ i) ⟨p, false⟩ = (v + 2 ^ i * bitsV s p k, ⟨p + k, false⟩) := by
  induction k with
  | zero => intro v i p _; simp [numL, bitsV]
  | succ k ih =>
    intro v i p h
    rw [numL, oneT_go s ⟨p, false⟩ (by simp; omega)]
    dsimp only
    rw [show 2 * 2 ^ i = 2 ^ (i + 1) by rw [Nat.pow_succ, Nat.mul_comm], ih _ _ _ (by omega), Nat.add_comm k 1, bitsV_add s p 1 k]
    simp only [bitsV, Nat.pow_zero, Nat.one_mul, Nat.add_zero, Nat.zero_add, Nat.pow_succ, bitP]
    rw [Nat.mul_add, Nat.mul_assoc (2 ^ i) 2, Nat.add_assoc, Nat.add_assoc p 1 k]
theorem numT_ok (s : ByteArray) (n p : Nat) (h : p + n ≤ 8 * s.size) : numT s n ⟨p, false⟩ = (bitsV s p n, ⟨p + n, false⟩) := by
  have := numL_ok s n 0 0 p h
  simpa [numT] using this
theorem numL_short (s : ByteArray) (k : Nat) : ∀ v u p, p ≤ 8 * s.size → ¬ p + k ≤ 8 * s.size → (numL s k v u ⟨p, false⟩).2.bad = true := by
  induction k with
  | zero => intro v u p h1 h2; omega
  | succ k ih =>
    intro v u p h1 h2
    rw [numL]
    by_cases hp : p < 8 * s.size
    · rw [oneT_go s ⟨p, false⟩ (by simp; omega)]
      exact ih _ _ _ (by show p + 1 ≤ _; omega) (by show ¬ p + 1 + k ≤ _; omega)
    · rw [oneT_bad s ⟨p, false⟩ (.inr (by show 8 * s.size ≤ p; omega))]
      exact numL_keep s k _ _ _ rfl
theorem numT_short (s : ByteArray) (n p : Nat) (h1 : p ≤ 8 * s.size) (h2 : ¬ p + n ≤ 8 * s.size) : (numT s n ⟨p, false⟩).2.bad = true := numL_short s n _ _ p h1 h2
theorem oneT_ok (s : ByteArray) (p : Nat) (h : p < 8 * s.size) : oneT s ⟨p, false⟩ = (bitsV s p 1, ⟨p + 1, false⟩) := by
  rw [oneT_go s ⟨p, false⟩ (by simp; omega)]
  simp [bitsV, bitP]
theorem oneT_short (s : ByteArray) (p : Nat) (h : ¬ p < 8 * s.size) : (oneT s ⟨p, false⟩).2.bad = true := by
  rw [oneT_bad s ⟨p, false⟩ (.inr (by show 8 * s.size ≤ p; omega))]
/-- what is left of a text behind its first bytes -/
theorem rest_size (s : ByteArray) (t : Nat) : (s.extract t s.size).size = s.size - t := by simp
theorem rest_more (s : ByteArray) (t : Nat) (h : t < s.size) : (s.extract t s.size).extract 1 (s.extract t s.size).size = s.extract (t + 1) s.size := by
  apply ByteArray.ext
  simp only [ByteArray.data_extract, rest_size s t, Array.extract_extract]
  congr 1
  omega
theorem rest_first (s : ByteArray) (t : Nat) (h : t < s.size) (h0 : 0 < (s.extract t s.size).size) : ((s.extract t s.size)[0]).toNat = byteAt s t := by
  rw [byteAt_is s t h]
  congr 1
  show (s.extract t s.size).data[0] = s.data[t]
  simp [ByteArray.data_extract]
end Go.Proofs.YtephkcdbnogdhaaGreatDoor.Rf
/- Codes by counting against codes that are written out. Nothing of the program is named here. -/
namespace Go.Proofs.YtephkcdbnogdhaaGreatDoor.Rf
/-- how many symbols have a code of length n -/
def cN (L : List Nat) (n : Nat) : Nat := if n = 0 then 0 else L.count n
/-- the first code of length n, as a number -/
def fN (L : List Nat) : Nat → Nat
  | 0 => 0
  | n + 1 => 2 * (fN L n + cN L n)
/-- how many codes are shorter than n -/
def sN (L : List Nat) : Nat → Nat
  | 0 => 0
  | n + 1 => sN L n + cN L n
/-- how many rows of 15 bits begin with a code shorter than n -/
def kN (L : List Nat) : Nat → Nat
  | 0 => 0
  | n + 1 => kN L n + cN L n * pw (15 - n)
/-- the symbols below m that have length n, in their order -/
def symsTo (L : List Nat) (n m : Nat) : List Nat := (List.range m).filter fun s => L.getD s 0 == n
def symsAt (L : List Nat) (n : Nat) : List Nat := if n = 0 then [] else symsTo L n L.length
/-- all symbols that have a code shorter than n, in the order of their codes -/
def ordN (L : List Nat) : Nat → List Nat
  | 0 => []
  | n + 1 => ordN L n ++ symsAt L n
theorem symsTo_succ (L : List Nat) (n m : Nat) : symsTo L n (m + 1) = if L.getD m 0 = n then symsTo L n m ++ [m] else symsTo L n m := by
  unfold symsTo
  rw [List.range_succ, List.filter_append]
  by_cases h : L.getD m 0 = n
  · rw [if_pos h]; simp only [List.filter_cons, List.filter_nil, h, beq_self_eq_true, if_true]
  · rw [if_neg h]; simp only [List.filter_cons, List.filter_nil, beq_eq_false_iff_ne.2 h, Bool.false_eq_true, if_false, List.append_nil]
theorem symsTo_len (L : List Nat) (n : Nat) : ∀ m, m ≤ L.length → (symsTo L n m).length = (L.take m).count n := by
  intro m
  induction m with
  | zero => intro _; simp [symsTo]
  | succ m ih =>
    intro h
    have hm : L.getD m 0 = L[m]'(by omega) := by simp [List.getD, List.getElem?_eq_getElem (show m < L.length by omega)]
    rw [symsTo_succ, List.take_succ_eq_append_getElem (by omega), List.count_append, ← ih (by omega)]
    by_cases h2 : L.getD m 0 = n
    · rw [if_pos h2]; rw [hm] at h2; simp [h2]
    · rw [if_neg h2]; rw [hm] at h2; simp [h2]
theorem symsAt_len (L : List Nat) (n : Nat) : (symsAt L n).length = cN L n := by
  unfold symsAt cN
  by_cases h : n = 0
  · simp [h]
  · rw [if_neg h, if_neg h, symsTo_len L n L.length (Nat.le_refl _), List.take_length]
theorem ordN_len (L : List Nat) (n : Nat) : (ordN L n).length = sN L n := by
  induction n with
  | zero => rfl
  | succ n ih => rw [ordN, List.length_append, ih, symsAt_len, sN]
theorem sN_mono (L : List Nat) (a b : Nat) (h : a ≤ b) : sN L a ≤ sN L b := by
  induction b with
  | zero => have : a = 0 := by omega
            subst this; exact Nat.le_refl _
  | succ b ih =>
    by_cases e : a = b + 1
    · subst e; exact Nat.le_refl _
    · have := ih (by omega); rw [sN]; omega
theorem ordN_at (L : List Nat) (m : Nat) : ∀ n j, n < m → j < cN L n → (ordN L m).getD (sN L n + j) 0 = (symsAt L n).getD j 0 := by
  induction m with
  | zero => intro n j h; omega
  | succ m ih =>
    intro n j hn hj
    have hl := ordN_len L m
    have ha := symsAt_len L n
    by_cases e : n = m
    · subst e
      rw [ordN, List.getD_eq_getElem?_getD, List.getElem?_append_right (by omega), hl, show sN L n + j - sN L n = j by omega, ← List.getD_eq_getElem?_getD]
    · have h2 := ih n j (by omega) hj
      have h3 := sN_mono L (n + 1) m (by omega)
      rw [sN] at h3
      rw [ordN, List.getD_eq_getElem?_getD, List.getElem?_append_left (by omega), ← List.getD_eq_getElem?_getD]
      exact h2
/-- codes of length n from the number v on -/
def codesFrom (v n : Nat) : List Nat → List (Nat × List UInt8)
  | [] => []
  | x :: l => (x, binT v n) :: codesFrom (v + 1) n l
theorem codesFrom_snoc (n : Nat) (l : List Nat) : ∀ v x, codesFrom v n (l ++ [x]) = codesFrom v n l ++ [(x, binT (v + l.length) n)] := by
  induction l with
  | nil => intro v x; rfl
  | cons y l ih =>
    intro v x
    simp only [List.cons_append, codesFrom, ih, List.length_cons]
    rw [show v + 1 + l.length = v + (l.length + 1) by omega]
/-- the codes shorter than n, written out -/
def csN (L : List Nat) : Nat → List (Nat × List UInt8)
  | 0 => []
  | n + 1 => csN L n ++ codesFrom (fN L n) n (symsAt L n)
theorem innerC_is (L : List Nat) (n : Nat) (h1 : 1 ≤ n) (j : Nat) : ∀ s st, s + j = L.length → st.long ≤ n → st.value * pw (n - st.long) = fN L n + (symsTo L n s).length → st.cs = csN L n ++ codesFrom (fN L n) n (symsTo L n s) → st.much = kN L n + (symsTo L n s).length * pw (15 - n) →
    (innerC L n j s st).long ≤ n ∧ (innerC L n j s st).value * pw (n - (innerC L n j s st).long) = fN L n + cN L n ∧ (innerC L n j s st).cs = csN L (n + 1) ∧ (innerC L n j s st).much = kN L (n + 1) := by
  induction j with
  | zero =>
    intro s st hs h2 h3 h4 h5
    have hs' : s = L.length := by omega
    subst hs'
    have hA : symsAt L n = symsTo L n L.length := by unfold symsAt; rw [if_neg (by omega)]
    have hl := symsAt_len L n
    rw [hA] at hl
    rw [hl] at h3 h5
    refine ⟨h2, h3, ?_, h5⟩
    show st.cs = _
    rw [h4, csN, hA]
  | succ j ih =>
    intro s st hs h2 h3 h4 h5
    rw [innerC]
    by_cases e : L.getD s 0 = n
    · have es : symsTo L n (s + 1) = symsTo L n s ++ [s] := by rw [symsTo_succ, if_pos e]
      refine ih (s + 1) _ (by omega) ?_ ?_ ?_ ?_
      · unfold stepC; rw [if_pos e]; exact Nat.le_refl _
      · unfold stepC; rw [if_pos e, es]
        simp only [Nat.sub_self, List.length_append, List.length_cons, List.length_nil]
        rw [h3]; simp [pw]; omega
      · unfold stepC; rw [if_pos e, es, codesFrom_snoc]
        simp only [h3, h4, List.append_assoc]
      · unfold stepC; rw [if_pos e, es]
        simp only [List.length_append, List.length_cons, List.length_nil]
        rw [h5, Nat.add_mul]; omega
    · have es : symsTo L n (s + 1) = symsTo L n s := by rw [symsTo_succ, if_neg e]
      have e2 : stepC L n s st = st := by unfold stepC; rw [if_neg e]
      rw [e2]
      exact ih (s + 1) _ (by omega) h2 (by rw [es]; exact h3) (by rw [es]; exact h4) (by rw [es]; exact h5)
theorem outerC_is (L : List Nat) (j : Nat) : ∀ n st, 1 ≤ n → st.long ≤ n → st.value * pw (n - st.long) = fN L n → st.cs = csN L n → st.much = kN L n → (outerC L j n st).cs = csN L (n + j) ∧ (outerC L j n st).much = kN L (n + j) := by
  induction j with
  | zero => intro n st _ _ _ h4 h5; exact ⟨h4, h5⟩
  | succ j ih =>
    intro n st h1 h2 h3 h4 h5
    obtain ⟨a, b, c, d⟩ := innerC_is L n h1 L.length 0 st (by omega) h2 (by simpa [symsTo] using h3) (by simpa [symsTo, codesFrom] using h4) (by simpa [symsTo] using h5)
    rw [outerC, show n + (j + 1) = n + 1 + j by omega]
    refine ih (n + 1) _ (by omega) (by omega) ?_ c d
    rw [fN, ← b, show n + 1 - (innerC L n L.length 0 st).long = (n - (innerC L n L.length 0 st).long) + 1 by omega, pw_succ]
    rw [Nat.mul_left_comm]
theorem codesT_is (L : List Nat) : (codesT L).cs = csN L 16 ∧ (codesT L).much = kN L 16 := by
  refine outerC_is L 15 1 ⟨[], 0, 0, 0⟩ (by omega) (by simp) ?_ ?_ ?_
  · simp [fN, cN]
  · rfl
  · simp [kN, cN]
theorem fN_kN (L : List Nat) : ∀ n, n ≤ 15 → fN L n * pw (15 - n) = kN L n := by
  intro n
  induction n with
  | zero => intro _; simp [fN, kN]
  | succ n ih =>
    intro h
    have e : pw (15 - n) = 2 * pw (15 - (n + 1)) := by rw [← pw_succ]; congr 1; omega
    rw [fN, kN, ← ih (by omega), ← Nat.add_mul, e, Nat.mul_comm 2 (fN L n + cN L n), Nat.mul_assoc]
theorem kN_mono (L : List Nat) (a b : Nat) (h : a ≤ b) : kN L a ≤ kN L b := by
  induction b with
  | zero => have : a = 0 := by omega
            subst this; exact Nat.le_refl _
  | succ b ih =>
    by_cases e : a = b + 1
    · subst e; exact Nat.le_refl _
    · have := ih (by omega); rw [kN]; omega
/-- where not too many rows are begun, the codes of a length are below 2 to its power -/
theorem fit_len (L : List Nat) (n : Nat) (hn : n ≤ 15) (hK : kN L 16 ≤ 32768) : fN L n + cN L n ≤ 2 ^ n := by
  have h1 := kN_mono L (n + 1) 16 (by omega)
  have h2 := fN_kN L n hn
  rw [kN, ← h2, ← Nat.add_mul] at h1
  have e : (2 : Nat) ^ n * pw (15 - n) = 32768 := by
    unfold pw; rw [← Nat.pow_add, show n + (15 - n) = 15 by omega]
  have h3 : (fN L n + cN L n) * pw (15 - n) ≤ 2 ^ n * pw (15 - n) := by rw [e]; omega
  exact Nat.le_of_mul_le_mul_right h3 (pw_pos _)
theorem binL_acc (j : Nat) : ∀ v acc, binL j v acc = binL j v [] ++ acc := by
  induction j with
  | zero => intro v acc; simp [binL]
  | succ j ih => intro v acc; rw [binL, ih, binL, ih _ [_], List.append_assoc]; rfl
theorem binT_succ (v n : Nat) : binT v (n + 1) = binT (v / 2) n ++ [sign (v % 2)] := by
  unfold binT
  rw [binL, binL_acc]
  rfl
theorem binT_more (v b n : Nat) (hb : b ≤ 1) : binT v n ++ [sign b] = binT (2 * v + b) (n + 1) := by
  rw [binT_succ, show (2 * v + b) / 2 = v by omega, show (2 * v + b) % 2 = b by omega]
theorem sign_inj (a b : Nat) (ha : a ≤ 1) (hb : b ≤ 1) (h : sign a = sign b) : a = b := by
  unfold sign at h
  by_cases h1 : a = 1 <;> by_cases h2 : b = 1 <;> simp [h1, h2] at h ⊢ <;> omega
theorem binT_inj (n : Nat) : ∀ v u, v < 2 ^ n → u < 2 ^ n → binT v n = binT u n → v = u := by
  induction n with
  | zero => intro v u hv hu _; simp at hv hu; omega
  | succ n ih =>
    intro v u hv hu h
    rw [binT_succ, binT_succ] at h
    have h2 := List.append_inj' h rfl
    rw [Nat.pow_succ] at hv hu
    have e1 := ih _ _ (by omega) (by omega) h2.1
    have e2 := sign_inj _ _ (by omega) (by omega) (List.cons.inj h2.2).1
    omega
theorem findC_append (a b : List (Nat × List UInt8)) (p : List UInt8) : findC (a ++ b) p = (findC a p).or (findC b p) := by
  unfold findC
  rw [List.find?_append]
  cases List.find? (fun c => c.2 == p) a <;> rfl
theorem findC_skip (cs : List (Nat × List UInt8)) (p : List UInt8) (h : ∀ c ∈ cs, c.2.length ≠ p.length) : findC cs p = none := by
  unfold findC
  rw [Option.map_eq_none_iff, List.find?_eq_none]
  intro c hc e
  have : c.2 = p := by simpa using e
  exact h c hc (by rw [this])
theorem codesFrom_len (n : Nat) (l : List Nat) : ∀ v, ∀ c ∈ codesFrom v n l, c.2.length = n := by
  induction l with
  | nil => intro v c hc; cases hc
  | cons x l ih =>
    intro v c hc
    rcases List.mem_cons.1 hc with rfl | hc
    · exact binT_length _ _
    · exact ih _ c hc
theorem findC_from (n : Nat) (l : List Nat) : ∀ v c, c < 2 ^ n → v + l.length ≤ 2 ^ n → v ≤ c → findC (codesFrom v n l) (binT c n) = if c - v < l.length then some (l.getD (c - v) 0) else none := by
  induction l with
  | nil => intro v c _ _ _; simp [codesFrom, findC]
  | cons x l ih =>
    intro v c hc hv hle
    simp only [List.length_cons] at hv ⊢
    by_cases e : c = v
    · subst e
      have : findC (codesFrom c n (x :: l)) (binT c n) = some x := by simp [codesFrom, findC]
      rw [this, if_pos (by omega)]
      simp
    · have hne : (binT v n == binT c n) = false := by
        rw [beq_eq_false_iff_ne]
        intro h; exact e (binT_inj n v c (by omega) hc h).symm
      have h2 : findC (codesFrom v n (x :: l)) (binT c n) = findC (codesFrom (v + 1) n l) (binT c n) := by
        simp only [codesFrom, findC, List.find?_cons, hne]
      rw [h2, ih (v + 1) c hc (by omega) (by omega)]
      obtain ⟨d, rfl⟩ : ∃ d, c = v + 1 + d := ⟨c - (v + 1), by omega⟩
      rw [show v + 1 + d - (v + 1) = d by omega, show v + 1 + d - v = d + 1 by omega]
      by_cases h3 : d < l.length
      · rw [if_pos h3, if_pos (by omega)]; simp
      · rw [if_neg h3, if_neg (by omega)]
theorem csN_len (L : List Nat) (m : Nat) : ∀ c ∈ csN L m, c.2.length < m := by
  induction m with
  | zero => intro c hc; cases hc
  | succ m ih =>
    intro c hc
    rcases List.mem_append.1 hc with hc | hc
    · have := ih c hc; omega
    · have := codesFrom_len m _ _ c hc; omega
theorem findC_csN (L : List Nat) (n : Nat) (p : List UInt8) (hp : p.length = n) (m : Nat) : n < m → findC (csN L m) p = findC (codesFrom (fN L n) n (symsAt L n)) p := by
  induction m with
  | zero => intro h; omega
  | succ m ih =>
    intro h
    rw [csN, findC_append]
    by_cases e : n = m
    · subst e
      rw [findC_skip (csN L n) p (fun c hc => by have := csN_len L n c hc; omega)]
      rfl
    · rw [ih (by omega), findC_skip (codesFrom (fN L m) m (symsAt L m)) p (fun c hc => by have := codesFrom_len m _ _ c hc; omega)]
      cases findC (codesFrom (fN L n) n (symsAt L n)) p <;> rfl
/-- which symbol a row of n bits is the code of: by counting -/
theorem findC_canon (L : List Nat) (n c : Nat) (hn : n ≤ 15) (hc : c < 2 ^ n) (hF : fN L n ≤ c) (hK : kN L 16 ≤ 32768) :
    findC (codesT L).cs (binT c n) = if c - fN L n < cN L n then some ((ordN L 16).getD (sN L n + (c - fN L n)) 0) else none := by
  have hf := fit_len L n hn hK
  have hl := symsAt_len L n
  rw [(codesT_is L).1, findC_csN L n _ (binT_length _ _) 16 (by omega), findC_from n _ _ _ hc (by omega) hF, hl]
  by_cases h : c - fN L n < cN L n
  · rw [if_pos h, if_pos h, ordN_at L 16 n _ (by omega) h]
  · rw [if_neg h, if_neg h]
/-- the longest code -/
def longest (L : List Nat) : Nat := L.foldl max 0
theorem foldl_max_ge (L : List Nat) : ∀ a, a ≤ L.foldl max a ∧ ∀ x ∈ L, x ≤ L.foldl max a := by
  induction L with
  | nil => intro a; exact ⟨Nat.le_refl _, fun x hx => by cases hx⟩
  | cons y L ih =>
    intro a
    obtain ⟨h1, h2⟩ := ih (max a y)
    refine ⟨Nat.le_trans (Nat.le_max_left a y) h1, fun x hx => ?_⟩
    rcases List.mem_cons.1 hx with rfl | hx
    · exact Nat.le_trans (Nat.le_max_right a x) h1
    · exact h2 x hx
theorem longest_snoc (L : List Nat) (x : Nat) : longest (L ++ [x]) = max (longest L) x := by
  unfold longest; rw [List.foldl_append]; rfl
theorem foldl_max_le (L : List Nat) (N : Nat) : ∀ a, a ≤ N → (∀ x ∈ L, x ≤ N) → L.foldl max a ≤ N := by
  induction L with
  | nil => intro a h _; exact h
  | cons y L ih =>
    intro a h hx
    exact ih _ (Nat.max_le.2 ⟨h, hx y (List.mem_cons_self ..)⟩) (fun x h => hx x (List.mem_cons_of_mem _ h))
theorem longest_le (L : List Nat) (N : Nat) (h : ∀ x ∈ L, x ≤ N) : longest L ≤ N := foldl_max_le L N 0 (Nat.zero_le _) h
theorem cN_long (L : List Nat) (n : Nat) (h : longest L < n) : cN L n = 0 := by
  unfold cN
  rw [if_neg (by omega), List.count_eq_zero]
  intro hm
  have := (foldl_max_ge L 0).2 n hm
  unfold longest at h
  omega
theorem cN_le (L : List Nat) (n : Nat) : cN L n ≤ L.length := by
  unfold cN; split
  · exact Nat.zero_le _
  · exact List.count_le_length
/-- nothing is found behind the longest code -/
theorem findC_long (L : List Nat) (p : List UInt8) (h : longest L < p.length) : findC (codesT L).cs p = none := by
  rw [(codesT_is L).1]
  by_cases hp : p.length < 16
  · rw [findC_csN L p.length p rfl 16 hp]
    have hz : (symsAt L p.length).length = 0 := by rw [symsAt_len, cN_long L _ h]
    rw [List.eq_nil_of_length_eq_zero hz]
    rfl
  · exact findC_skip _ _ (fun c hc => by have := csN_len L 16 c hc; omega)
theorem symL_none (s : ByteArray) (cs : List (Nat × List UInt8)) (k : Nat) : ∀ pre st, (∀ q : List UInt8, pre.length < q.length → findC cs q = none) → (symL s cs k pre st).2.bad = true := by
  induction k with
  | zero => intro pre st _; rfl
  | succ k ih =>
    intro pre st h
    rw [symL]
    split
    · rfl
    · split
      · rfl
      · rw [h _ (by simp)]
        exact ih _ _ (fun q hq => h q (by simp at hq; omega))
/-- rows begun, summed over the symbols -/
def muchL (L : List Nat) : Nat := (L.map fun x => if 0 < x then pw (15 - x) else 0).sum
theorem muchL_snoc (L : List Nat) (x : Nat) : muchL (L ++ [x]) = muchL L + if 0 < x then pw (15 - x) else 0 := by
  unfold muchL; rw [List.map_append, List.sum_append]; simp
theorem cN_cons (L : List Nat) (x n : Nat) : cN (x :: L) n = cN L n + if x = n ∧ n ≠ 0 then 1 else 0 := by
  unfold cN
  by_cases h : n = 0
  · simp [h]
  · rw [if_neg h, if_neg h, List.count_cons]
    by_cases e : x = n
    · simp [e, h]
    · simp [e]
theorem kN_cons (L : List Nat) (x : Nat) : ∀ m, kN (x :: L) m = kN L m + if 0 < x ∧ x < m then pw (15 - x) else 0 := by
  intro m
  induction m with
  | zero => simp [kN]
  | succ m ih =>
    rw [kN, ih, kN, cN_cons, Nat.add_mul]
    by_cases h : x = m
    · subst h
      by_cases h0 : x = 0
      · rw [if_neg (by omega), if_neg (by omega), if_neg (by omega)]
        generalize pw (15 - x) = P
        rw [Nat.zero_mul]; omega
      · rw [if_neg (by omega), if_pos ⟨rfl, h0⟩, if_pos (by omega)]
        generalize pw (15 - x) = P
        omega
    · rw [if_neg (show ¬ (x = m ∧ m ≠ 0) from fun e => h e.1)]
      by_cases h2 : 0 < x ∧ x < m
      · rw [if_pos h2, if_pos (by omega)]; omega
      · rw [if_neg h2, if_neg (by omega)]; omega
theorem kN_nil (m : Nat) : kN [] m = 0 := by
  induction m with
  | zero => rfl
  | succ m ih => rw [kN, ih]; simp [cN]
theorem kN_much (L : List Nat) (h : ∀ x ∈ L, x ≤ 15) : kN L 16 = muchL L := by
  induction L with
  | nil => rw [kN_nil]; rfl
  | cons x L ih =>
    rw [kN_cons, ih (fun y hy => h y (List.mem_cons_of_mem _ hy))]
    have hx := h x (List.mem_cons_self ..)
    unfold muchL
    rw [List.map_cons, List.sum_cons]
    by_cases h0 : 0 < x
    · rw [if_pos (by omega), if_pos h0]; omega
    · rw [if_neg (by omega), if_neg h0]; omega
theorem codesT_muchL (L : List Nat) (h : ∀ x ∈ L, x ≤ 15) : (codesT L).much = muchL L := (codesT_is L).2.trans (kN_much L h)
end Go.Proofs.YtephkcdbnogdhaaGreatDoor.Rf
/- Bytes that come again, as the document has them, and in the order in which the program asks. Nothing of the program is named here. -/
namespace Go.Proofs.YtephkcdbnogdhaaGreatDoor.Rf
def againT (s : ByteArray) (win most : Nat) (B : List (Nat × List UInt8)) (y : Nat) (u : US) : US :=
  if (matchT s win u.out.length B y u.st).stop = true then ⟨(matchT s win u.out.length B y u.st).st, u.out⟩ else cpL most (matchT s win u.out.length B y u.st).far (matchT s win u.out.length B y u.st).n ⟨(matchT s win u.out.length B y u.st).st, u.out⟩
theorem symL_zero (s : ByteArray) (cs : List (Nat × List UInt8)) (k : Nat) : ∀ pre st, (symL s cs k pre st).2.bad = true → (symL s cs k pre st).1 = 0 := by
  induction k with
  | zero => intro pre st _; rfl
  | succ k ih =>
    intro pre st h
    rw [symL] at h ⊢
    by_cases h1 : st.bad = true
    · rw [if_pos h1]
    · rw [if_neg h1] at h ⊢
      by_cases h2 : (oneT s st).2.bad = true
      · rw [if_pos h2]
      · rw [if_neg h2] at h ⊢
        split at h
        · exact absurd h h2
        · exact ih _ _ h
theorem symT_zero (s : ByteArray) (cs : List (Nat × List UInt8)) (st : RS) (h : (symT s cs st).2.bad = true) : (symT s cs st).1 = 0 := symL_zero s cs 15 [] st h
theorem symT_keep (s : ByteArray) (cs : List (Nat × List UInt8)) (st : RS) (h : st.bad = true) : (symT s cs st).2.bad = true := by
  unfold symT; rw [symL_bad s cs 15 [] st h]
theorem again_bad {s : ByteArray} {win most : Nat} {B : List (Nat × List UInt8)} {y : Nat} {u : US} (h : (matchT s win u.out.length B y u.st).st.bad = true) : (againT s win most B y u).st.bad = true := by
  unfold againT
  split
  · exact h
  · rw [cpL_bad _ _ _ _ h]; exact h
theorem again_dist {s : ByteArray} {win most : Nat} {B : List (Nat × List UInt8)} {y : Nat} {u : US} (h : (symT s B (numT s (lenT y).2 u.st).2).2.bad = true) : (againT s win most B y u).st.bad = true := by
  apply again_bad
  have h0 := symT_zero s B _ h
  rw [matchT_go s win u.out.length B y u.st (by omega)]
  dsimp only
  split
  · rfl
  · exact numT_keep s _ _ h
theorem again_len {s : ByteArray} {win most : Nat} {B : List (Nat × List UInt8)} {y : Nat} {u : US} (h : (numT s (lenT y).2 u.st).2.bad = true) : (againT s win most B y u).st.bad = true := again_dist (symT_keep s B _ h)
theorem again_far {s : ByteArray} {win most : Nat} {B : List (Nat × List UInt8)} {y : Nat} {u : US} (h : 29 < (symT s B (numT s (lenT y).2 u.st).2).1) : (againT s win most B y u).st.bad = true := by
  apply again_bad
  rw [matchT_far s win u.out.length B y u.st h]
theorem again_more {s : ByteArray} {win most : Nat} {B : List (Nat × List UInt8)} {y : Nat} {u : US} (h0 : ¬ 29 < (symT s B (numT s (lenT y).2 u.st).2).1)
    (h : (numT s (distT (symT s B (numT s (lenT y).2 u.st).2).1).2 (symT s B (numT s (lenT y).2 u.st).2).2).2.bad = true) : (againT s win most B y u).st.bad = true := by
  apply again_bad
  rw [matchT_go s win u.out.length B y u.st h0]
  dsimp only
  split
  · rfl
  · exact h
theorem cpL_over (most far : Nat) (n : Nat) : ∀ u : US, most < u.out.length + n → u.out.length ≤ most → (cpL most far n u).st.bad = true := by
  induction n with
  | zero => intro u h h2; omega
  | succ n ih =>
    intro u h h2
    by_cases hb : u.st.bad = true
    · rw [cpL_bad _ _ _ _ hb]; exact hb
    · have hb' : u.st.bad = false := by simpa using hb
      rw [cpL_go most far n u hb']
      by_cases hf : most ≤ u.out.length
      · rw [putT_full most _ u hf]
        rw [cpL_bad _ _ _ _ rfl]
      · rw [putT_go most _ u hf hb']
        exact ih _ (by simp; omega) (by simp; omega)
theorem again_over {s : ByteArray} {win most : Nat} {B : List (Nat × List UInt8)} {y : Nat} {u : US} (hl : u.out.length ≤ most) (h : ¬ u.out.length + ((lenT y).1 + (numT s (lenT y).2 u.st).1) ≤ most) : (againT s win most B y u).st.bad = true := by
  by_cases h0 : 29 < (symT s B (numT s (lenT y).2 u.st).2).1
  · exact again_far h0
  · unfold againT
    rw [matchT_go s win u.out.length B y u.st h0]
    rw [if_neg (by simp)]
    exact cpL_over most _ _ _ (by dsimp only; omega) hl
theorem again_go {s : ByteArray} {win most : Nat} {B : List (Nat × List UInt8)} {y pos p1 p2 p3 n1 d n3 : Nat} {out : List UInt8} (h1 : numT s (lenT y).2 ⟨pos, false⟩ = (n1, ⟨p1, false⟩)) (h2 : symT s B ⟨p1, false⟩ = (d, ⟨p2, false⟩)) (h3 : d ≤ 29) (h4 : numT s (distT d).2 ⟨p2, false⟩ = (n3, ⟨p3, false⟩)) :
    againT s win most B y ⟨⟨pos, false⟩, out⟩ = if win < (distT d).1 + n3 ∨ out.length < (distT d).1 + n3 then ⟨⟨p3, true⟩, out⟩ else cpL most ((distT d).1 + n3) ((lenT y).1 + n1) ⟨⟨p3, false⟩, out⟩ := by
  unfold againT
  rw [matchT_go s win out.length B y ⟨pos, false⟩ (by rw [h1, h2]; exact Nat.not_lt.2 h3)]
  rw [if_neg (by simp)]
  dsimp only
  rw [h1]
  dsimp only
  rw [h2]
  dsimp only
  rw [h4]
  dsimp only
  by_cases h : win < (distT d).1 + n3 ∨ out.length < (distT d).1 + n3
  · rw [if_pos h, if_pos h, cpL_bad _ _ _ _ rfl]
  · rw [if_neg h, if_neg h]
theorem symsF_again (s : ByteArray) (win most : Nat) (A B : List (Nat × List UInt8)) (f : Nat) (u : US) (h : u.st.bad = false) (h2 : (symT s A u.st).2.bad = false) (h3 : 257 ≤ (symT s A u.st).1) (h4 : (symT s A u.st).1 ≤ 285) :
    symsF s win most A B (f + 1) u = (if (matchT s win u.out.length B (symT s A u.st).1 (symT s A u.st).2).stop = true then againT s win most B (symT s A u.st).1 ⟨(symT s A u.st).2, u.out⟩ else symsF s win most A B f (againT s win most B (symT s A u.st).1 ⟨(symT s A u.st).2, u.out⟩)) := by
  unfold againT
  dsimp only
  by_cases hs : (matchT s win u.out.length B (symT s A u.st).1 (symT s A u.st).2).stop = true
  · rw [if_pos hs, symsF_far s win most A B f u h h2 h3 h4 hs, if_pos hs]
  · rw [if_neg hs, symsF_copy s win most A B f u h h2 h3 h4 (by simpa using hs), if_neg hs]
/-- where the block stops so, it is bad -/
theorem matchT_stop (s : ByteArray) (win len : Nat) (B : List (Nat × List UInt8)) (y : Nat) (st : RS) (h : (matchT s win len B y st).stop = true) : (matchT s win len B y st).st.bad = true := by
  by_cases h0 : 29 < (symT s B (numT s (lenT y).2 st).2).1
  · rw [matchT_far s win len B y st h0]
  · rw [matchT_go s win len B y st h0] at h; simp at h
theorem lenT_ge (y : Nat) (h1 : 257 ≤ y) (h2 : y ≤ 285) : 3 ≤ (lenT y).1 := by
  unfold lenT
  split
  · dsimp only; omega
  · have h := (lenL_le (y - 257) 257 3 (by omega)).1
    dsimp only
    generalize lenL (y - 257) 257 3 = z at *
    exact h
end Go.Proofs.YtephkcdbnogdhaaGreatDoor.Rf
/- A block of sort 2: where it is bad. Nothing of the program is named here. -/
namespace Go.Proofs.YtephkcdbnogdhaaGreatDoor.Rf
theorem hdrSt_keep (a b : Nat) (st : RS) (h : st.bad = true) : (hdrSt a b st).bad = true := by
  unfold hdrSt; split
  · rfl
  · exact h
theorem smallL_keep (s : ByteArray) (j : Nat) : ∀ i L st, st.bad = true → (smallL s j i L st).2.bad = true := by
  induction j with
  | zero => intro i L st h; exact h
  | succ j ih => intro i L st h; exact ih _ _ _ (numT_keep s 3 st h)
theorem smSt_keep (m : Nat) (st : RS) (h : st.bad = true) : (smSt m st).bad = true := by
  unfold smSt; split
  · exact h
  · rfl
theorem lensT_keep (s : ByteArray) (a b n : Nat) (st : RS) (h : (smSt (codesT (smallL s n 0 (List.replicate 19 0) st).1).much (smallL s n 0 (List.replicate 19 0) st).2).bad = true) : (lensT s a b n st).2.bad = true := by
  unfold lensT
  rw [lensF_bad _ _ _ _ _ _ h]; exact h
theorem finT_badly (s : ByteArray) (win most a b : Nat) (out : List UInt8) (L : List Nat) (st : RS) (h : st.bad = true ∨ L.length ≠ a + b) : (finT s win most a b out L st).st.bad = true := by
  rw [finT_bad s win most a b out L st h]
/-- the head of a block of sort 2 -/
def hdrT (s : ByteArray) (st : RS) : Nat × Nat × Nat × RS :=
  ((numT s 5 st).1 + 257, (numT s 5 (numT s 5 st).2).1 + 1, (numT s 4 (numT s 5 (numT s 5 st).2).2).1 + 4, hdrSt ((numT s 5 st).1 + 257) ((numT s 5 (numT s 5 st).2).1 + 1) (numT s 4 (numT s 5 (numT s 5 st).2).2).2)
theorem ownT_is (s : ByteArray) (win most : Nat) (u : US) : ownT s win most u = finT s win most (hdrT s u.st).1 (hdrT s u.st).2.1 u.out (lensT s (hdrT s u.st).1 (hdrT s u.st).2.1 (hdrT s u.st).2.2.1 (hdrT s u.st).2.2.2).1 (lensT s (hdrT s u.st).1 (hdrT s u.st).2.1 (hdrT s u.st).2.2.1 (hdrT s u.st).2.2.2).2 := rfl
theorem own_hdr (s : ByteArray) (win most : Nat) (u : US) (h : (hdrT s u.st).2.2.2.bad = true) : (ownT s win most u).st.bad = true := by
  rw [ownT_is]
  exact finT_badly _ _ _ _ _ _ _ _ (.inl (lensT_keep _ _ _ _ _ (smSt_keep _ _ (smallL_keep _ _ _ _ _ h))))
/-- the nineteen lengths -/
def smT (s : ByteArray) (n : Nat) (st : RS) : List Nat × RS := smallL s n 0 (List.replicate 19 0) st
theorem own_small (s : ByteArray) (win most : Nat) (u : US) (h : (smSt (codesT (smT s (hdrT s u.st).2.2.1 (hdrT s u.st).2.2.2).1).much (smT s (hdrT s u.st).2.2.1 (hdrT s u.st).2.2.2).2).bad = true) : (ownT s win most u).st.bad = true := by
  rw [ownT_is]
  exact finT_badly _ _ _ _ _ _ _ _ (.inl (lensT_keep _ _ _ _ _ h))
theorem smT_len (s : ByteArray) (n : Nat) (st : RS) : (smT s n st).1.length = 19 := by unfold smT; rw [smallL_len]; simp
theorem smT_le (s : ByteArray) (n : Nat) (st : RS) : ∀ x ∈ (smT s n st).1, x ≤ 15 := smallL_le s n 0 _ st (fun x hx => by rw [List.eq_of_mem_replicate hx]; omega)
/-- how lengths fit, by number: none, single, full -/
theorem cnt_zero_much (L : List Nat) (h : cnt L = 0) : muchL L = 0 := by
  induction L with
  | nil => rfl
  | cons x L ih =>
    have hx : ¬ 0 < x := by
      intro hx
      unfold cnt at h
      simp [hx] at h
    have h2 : cnt L = 0 := by
      unfold cnt at h ⊢
      simpa [List.filter_cons, hx] using h
    unfold muchL at *
    rw [List.map_cons, List.sum_cons, if_neg hx, ih h2]
end Go.Proofs.YtephkcdbnogdhaaGreatDoor.Rf
/- What was put out stays: each step's bytes begin with those ahead of it. Nothing of the program is named here. -/
set_option linter.unusedVariables false
namespace Go.Proofs.YtephkcdbnogdhaaGreatDoor.Rf
theorem putT_pre (most : Nat) (x : UInt8) (u : US) : u.out <+: (putT most x u).out := by
  unfold putT
  split
  · exact List.prefix_refl _
  · split
    · exact List.prefix_refl _
    · exact List.prefix_append _ _
theorem stL_pre (s : ByteArray) (most : Nat) (k : Nat) : ∀ u : US, u.out <+: (stL s most k u).out := by
  induction k with
  | zero => intro u; exact List.prefix_refl _
  | succ k ih =>
    intro u
    rw [stL]
    split
    · exact List.prefix_refl _
    · exact (putT_pre most _ ⟨(numT s 8 u.st).2, u.out⟩).trans (ih _)
theorem storedT_pre (s : ByteArray) (most : Nat) (u : US) : u.out <+: (storedT s most u).out := stL_pre s most _ ⟨(headT s u.st).2, u.out⟩
theorem cpL_pre (most far : Nat) (k : Nat) : ∀ u : US, u.out <+: (cpL most far k u).out := by
  induction k with
  | zero => intro u; exact List.prefix_refl _
  | succ k ih =>
    intro u
    rw [cpL]
    split
    · exact List.prefix_refl _
    · exact (putT_pre most _ u).trans (ih _)
theorem symsF_pre (s : ByteArray) (win most : Nat) (A B : List (Nat × List UInt8)) (f : Nat) : ∀ u : US, u.out <+: (symsF s win most A B f u).out := by
  induction f with
  | zero => intro u; exact List.prefix_refl _
  | succ f ih =>
    intro u
    rw [symsF]
    split
    · exact List.prefix_refl _
    · dsimp only
      split
      · exact List.prefix_refl _
      · split
        · exact (putT_pre most _ ⟨(symT s A u.st).2, u.out⟩).trans (ih _)
        · split
          · exact List.prefix_refl _
          · split
            · exact List.prefix_refl _
            · split
              · exact List.prefix_refl _
              · refine List.IsPrefix.trans ?_ (ih _)
                exact cpL_pre most _ _ ⟨(matchT s win u.out.length B (symT s A u.st).1 (symT s A u.st).2).st, u.out⟩
theorem finT_pre (s : ByteArray) (win most a b : Nat) (out : List UInt8) (L : List Nat) (st : RS) : out <+: (finT s win most a b out L st).out := by
  unfold finT
  split
  · exact List.prefix_refl _
  · split
    · exact List.prefix_refl _
    · exact symsF_pre s win most _ _ _ ⟨st, out⟩
theorem ownT_pre (s : ByteArray) (win most : Nat) (u : US) : u.out <+: (ownT s win most u).out := finT_pre s win most _ _ u.out _ _
theorem sortT_pre (s : ByteArray) (win most y : Nat) (u : US) : u.out <+: (sortT s win most y u).out := by
  unfold sortT
  split
  · exact List.prefix_refl _
  · split
    · exact storedT_pre s most u
    · split
      · exact symsF_pre s win most _ _ _ u
      · split
        · exact ownT_pre s win most u
        · exact List.prefix_refl _
theorem blkT_pre (s : ByteArray) (win most : Nat) (u : US) : u.out <+: (blkT s win most u).2.out := sortT_pre s win most _ ⟨(numT s 2 (oneT s u.st).2).2, u.out⟩
theorem blkF_pre (s : ByteArray) (win most : Nat) (f : Nat) : ∀ u : US, u.out <+: (blkF s win most f u).out := by
  induction f with
  | zero => intro u; exact List.prefix_refl _
  | succ f ih =>
    intro u
    rw [blkF]
    split
    · exact List.prefix_refl _
    · split
      · exact (blkT_pre s win most u).trans (ih _)
      · exact blkT_pre s win most u
end Go.Proofs.YtephkcdbnogdhaaGreatDoor.Rf
