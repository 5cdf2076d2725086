/- The document's unpacking, turned word for word into functions on plain data: a row of bits that are taken one by one, numbers, codes, symbols. Nothing of the program is named here. -/
namespace Go.Proofs.YtjfifmadldcjjaaGreatDoor.Rf
/-- where the row stands, and whether something was not as it must be -/
structure RS where
  pos : Nat
  bad : Bool
/-- bit k of a number -/
def bitAt (v k : Nat) : Nat := v / 2 ^ k % 2
theorem bitAt_le (v k : Nat) : bitAt v k ≤ 1 := by unfold bitAt; omega
theorem bitAt_of (v k y : Nat) (h : y = v / 2 ^ k) : bitAt v k = y % 2 := by unfold bitAt; rw [h]
theorem half_more (a k : Nat) : a / 2 ^ (k + 1) = a / 2 ^ k / 2 := by
  rw [Nat.div_div_eq_div_mul, Nat.pow_succ]
/-- byte i of a text -/
def byteAt (s : ByteArray) (i : Nat) : Nat := (s.data.toList.getD i 0).toNat
theorem byteAt_lt (s : ByteArray) (i : Nat) : byteAt s i ≤ 255 := by
  unfold byteAt; have := (s.data.toList.getD i 0).toNat_lt; omega
theorem byteAt_is (s : ByteArray) (i : Nat) (h : i < s.size) : byteAt s i = s[i].toNat := by
  unfold byteAt
  have h2 : i < s.data.toList.length := by simpa using h
  simp only [List.getD, List.getElem?_eq_getElem h2, Option.getD_some]
  rfl
/-- the next bit -/
def oneT (s : ByteArray) (st : RS) : Nat × RS :=
  if st.bad = true ∨ 8 * s.size ≤ st.pos then (0, ⟨st.pos, true⟩) else (bitAt (byteAt s (st.pos / 8)) (st.pos % 8), ⟨st.pos + 1, false⟩)
theorem oneT_bad (s : ByteArray) (st : RS) (h : st.bad = true ∨ 8 * s.size ≤ st.pos) : oneT s st = (0, ⟨st.pos, true⟩) := by unfold oneT; rw [if_pos h]
theorem oneT_go (s : ByteArray) (st : RS) (h : ¬ (st.bad = true ∨ 8 * s.size ≤ st.pos)) : oneT s st = (bitAt (byteAt s (st.pos / 8)) (st.pos % 8), ⟨st.pos + 1, false⟩) := by unfold oneT; rw [if_neg h]
theorem oneT_le (s : ByteArray) (st : RS) : (oneT s st).1 ≤ 1 := by
  unfold oneT; split
  · simp
  · exact bitAt_le _ _
theorem oneT_pos (s : ByteArray) (st : RS) (h : st.pos ≤ 8 * s.size) : (oneT s st).2.pos ≤ 8 * s.size := by
  unfold oneT; split
  · exact h
  · simp; omega
/-- a number of k bits more -/
def numL (s : ByteArray) : Nat → Nat → Nat → RS → Nat × RS
  | 0, v, _, st => (v, st)
  | k + 1, v, u, st => numL s k (v + u * (oneT s st).1) (2 * u) (oneT s st).2
def numT (s : ByteArray) (n : Nat) (st : RS) : Nat × RS := numL s n 0 1 st
theorem numL_lt (s : ByteArray) (k : Nat) : ∀ v i st, v < 2 ^ i → (numL s k v (2 ^ i) st).1 < 2 ^ (i + k) := by
  induction k with
  | zero => intro v i st h; exact h
  | succ k ih =>
    intro v i st h
    simp only [numL]
    rw [show 2 * 2 ^ i = 2 ^ (i + 1) by rw [Nat.pow_succ, Nat.mul_comm], show i + (k + 1) = i + 1 + k by omega]
    refine ih _ _ _ ?_
    have h1 := oneT_le s st
    have h2 : 2 ^ i * (oneT s st).1 ≤ 2 ^ i * 1 := Nat.mul_le_mul_left _ h1
    rw [Nat.pow_succ]; omega
theorem numT_lt (s : ByteArray) (n : Nat) (st : RS) : (numT s n st).1 < 2 ^ n := by
  have := numL_lt s n 0 0 st (by simp)
  simpa [numT] using this
theorem numL_pos (s : ByteArray) (k : Nat) : ∀ v u st, st.pos ≤ 8 * s.size → (numL s k v u st).2.pos ≤ 8 * s.size := by
  induction k with
  | zero => intro v u st h; exact h
  | succ k ih => intro v u st h; exact ih _ _ _ (oneT_pos s st h)
theorem numT_pos (s : ByteArray) (n : Nat) (st : RS) (h : st.pos ≤ 8 * s.size) : (numT s n st).2.pos ≤ 8 * s.size := numL_pos s n _ _ st h
/-- 2 to the power n -/
def pw (n : Nat) : Nat := 2 ^ n
theorem pw_succ (n : Nat) : pw (n + 1) = 2 * pw n := by unfold pw; rw [Nat.pow_succ, Nat.mul_comm]
theorem pw_le (n m : Nat) (h : n ≤ m) : pw n ≤ pw m := Nat.pow_le_pow_right (n := 2) (by omega) h
/-- what length and distance symbols stand for -/
def lenBits (s : Nat) : Nat := if s < 261 then 0 else (s - 261) / 4
def distBits (s : Nat) : Nat := if s < 2 then 0 else (s - 2) / 2
def lenL : Nat → Nat → Nat → Nat
  | 0, _, at_ => at_
  | j + 1, k, at_ => lenL j (k + 1) (at_ + pw (lenBits k))
def distL : Nat → Nat → Nat → Nat
  | 0, _, at_ => at_
  | j + 1, k, at_ => distL j (k + 1) (at_ + pw (distBits k))
def lenT (s : Nat) : Nat × Nat := if s = 285 then (258, 0) else (lenL (s - 257) 257 3, lenBits s)
def distT (s : Nat) : Nat × Nat := (distL s 0 1, distBits s)
theorem lenBits_le (s : Nat) (h : s ≤ 285) : lenBits s ≤ 6 := by unfold lenBits; split <;> omega
theorem distBits_le (s : Nat) (h : s ≤ 29) : distBits s ≤ 13 := by unfold distBits; split <;> omega
/-- the last n bits of a number, the highest first, as signs 0 and 1 -/
def binL : Nat → Nat → List UInt8 → List UInt8
  | 0, _, acc => acc
  | j + 1, v, acc => binL j (v / 2) ((if v % 2 = 1 then 49 else 48) :: acc)
def binT (v n : Nat) : List UInt8 := binL n v []
theorem binL_length (j : Nat) : ∀ v acc, (binL j v acc).length = j + acc.length := by
  induction j with
  | zero => intro v acc; simp [binL]
  | succ j ih => intro v acc; simp only [binL, ih, List.length_cons]; omega
theorem binT_length (v n : Nat) : (binT v n).length = n := by simp [binT, binL_length]
/-- codes as they are made: the list, the next code's value, how long it is, how many rows of 15 bits are begun -/
structure CS where
  cs : List (Nat × List UInt8)
  value : Nat
  long : Nat
  much : Nat
def stepC (L : List Nat) (n s : Nat) (st : CS) : CS :=
  if L.getD s 0 = n then ⟨st.cs ++ [(s, binT (st.value * pw (n - st.long)) n)], st.value * pw (n - st.long) + 1, n, st.much + pw (15 - n)⟩ else st
def innerC (L : List Nat) (n : Nat) : Nat → Nat → CS → CS
  | 0, _, st => st
  | j + 1, s, st => innerC L n j (s + 1) (stepC L n s st)
def outerC (L : List Nat) : Nat → Nat → CS → CS
  | 0, _, st => st
  | j + 1, n, st => outerC L j (n + 1) (innerC L n L.length 0 st)
def codesT (L : List Nat) : CS := outerC L 15 1 ⟨[], 0, 0, 0⟩
/-- what stays within bounds while codes are made -/
def CS.ok (st : CS) (n c : Nat) : Prop := st.long ≤ n ∧ st.value ≤ st.cs.length * pw st.long ∧ st.cs.length ≤ c ∧ st.much ≤ st.cs.length * 16384
theorem CS.ok.mono {st : CS} {n c n' c' : Nat} (h : st.ok n c) (hn : n ≤ n') (hc : c ≤ c') : st.ok n' c' := ⟨Nat.le_trans h.1 hn, h.2.1, Nat.le_trans h.2.2.1 hc, h.2.2.2⟩
theorem pw_pos (n : Nat) : 1 ≤ pw n := Nat.two_pow_pos n
theorem pw_split (a b : Nat) (h : a ≤ b) : pw a * pw (b - a) = pw b := by
  unfold pw; rw [← Nat.pow_add]; congr 1; omega
theorem up_le {st : CS} {n c : Nat} (h : st.ok n c) : st.value * pw (n - st.long) ≤ st.cs.length * pw n := by
  have h2 := Nat.mul_le_mul_right (pw (n - st.long)) h.2.1
  rw [Nat.mul_assoc, pw_split _ _ h.1] at h2
  exact h2
theorem stepC_ok (L : List Nat) (n s c : Nat) (st : CS) (h : st.ok n c) (h1 : 1 ≤ n) : (stepC L n s st).ok n (c + 1) := by
  unfold stepC
  split
  · have hu := up_le h
    have hp := pw_pos n
    have hq : pw (15 - n) ≤ pw 14 := pw_le _ _ (by omega)
    have hq2 : pw 14 = 16384 := rfl
    refine ⟨Nat.le_refl _, ?_, ?_, ?_⟩
    · simp only [List.length_append, List.length_cons, List.length_nil]
      rw [Nat.add_mul]; omega
    · simp only [List.length_append, List.length_cons, List.length_nil]; have := h.2.2.1; omega
    · simp only [List.length_append, List.length_cons, List.length_nil]; have := h.2.2.2; rw [Nat.add_mul]; omega
  · exact h.mono (Nat.le_refl _) (by omega)
theorem innerC_ok (L : List Nat) (n : Nat) (h1 : 1 ≤ n) (j : Nat) : ∀ s st c, st.ok n c → (innerC L n j s st).ok n (c + j) := by
  induction j with
  | zero => intro s st c h; exact h
  | succ j ih => intro s st c h; have := ih (s + 1) _ _ (stepC_ok L n s c st h h1); rw [show c + (j + 1) = c + 1 + j by omega]; exact this
theorem outerC_ok (L : List Nat) (j : Nat) : ∀ n st c, 1 ≤ n → st.ok n c → (outerC L j n st).ok (n + j) (c + j * L.length) := by
  induction j with
  | zero => intro n st c _ h; simpa [outerC] using h
  | succ j ih =>
    intro n st c h1 h
    have := ih (n + 1) _ _ (by omega) ((innerC_ok L n h1 L.length 0 st c h).mono (by omega) (Nat.le_refl _))
    rw [show n + (j + 1) = n + 1 + j by omega, Nat.add_mul, Nat.one_mul, show c + (j * L.length + L.length) = c + L.length + j * L.length by omega]
    exact this
theorem codesT_len (L : List Nat) (h : L.length ≤ 400) : (codesT L).cs.length ≤ 1000000 := by
  have := (outerC_ok L 15 1 ⟨[], 0, 0, 0⟩ 0 (by omega) ⟨by simp, by simp, by simp, by simp⟩).2.2.1
  unfold codesT
  omega
/-- the first code that is this row of signs -/
def findC (cs : List (Nat × List UInt8)) (p : List UInt8) : Option Nat := (cs.find? fun c => c.2 == p).map (·.1)
theorem findC_none (cs : List (Nat × List UInt8)) (p : List UInt8) (h : ∀ j (hj : j < cs.length), (cs[j].2 == p) = false) : findC cs p = none := by
  unfold findC
  rw [Option.map_eq_none_iff, List.find?_eq_none]
  intro x hx
  obtain ⟨j, hj, rfl⟩ := List.getElem_of_mem hx
  simpa using h j hj
theorem findC_some (cs : List (Nat × List UInt8)) (p : List UInt8) (k : Nat) (hk : k < cs.length) (h : ∀ j (hj : j < k), (cs[j].2 == p) = false) (e : (cs[k].2 == p) = true) : findC cs p = some cs[k].1 := by
  unfold findC
  have : cs.find? (fun c => c.2 == p) = some cs[k] := by
    rw [List.find?_eq_some_iff_getElem]
    exact ⟨e, k, hk, rfl, fun j hj => by simpa using h j hj⟩
  rw [this]; rfl
/-- a sign for a bit -/
def sign (b : Nat) : UInt8 := if b = 1 then 49 else 48
/-- the next code's symbol -/
def symL (s : ByteArray) (cs : List (Nat × List UInt8)) : Nat → List UInt8 → RS → Nat × RS
  | 0, _, st => (0, ⟨st.pos, true⟩)
  | k + 1, pre, st => if st.bad = true then (0, ⟨st.pos, true⟩) else
      if (oneT s st).2.bad = true then (0, ⟨(oneT s st).2.pos, true⟩) else
        match findC cs (pre ++ [sign (oneT s st).1]) with
        | some y => (y, (oneT s st).2)
        | none => symL s cs k (pre ++ [sign (oneT s st).1]) (oneT s st).2
def symT (s : ByteArray) (cs : List (Nat × List UInt8)) (st : RS) : Nat × RS := symL s cs 15 [] st
theorem symL_end (s : ByteArray) (cs : List (Nat × List UInt8)) (k : Nat) (pre : List UInt8) (st : RS) (h : st.bad = false) (h2 : (oneT s st).2.bad = true) : symL s cs (k + 1) pre st = (0, ⟨(oneT s st).2.pos, true⟩) := by
  rw [symL, if_neg (by simp [h]), if_pos h2]
theorem symL_hit (s : ByteArray) (cs : List (Nat × List UInt8)) (k : Nat) (pre : List UInt8) (st : RS) (h : st.bad = false) (h2 : (oneT s st).2.bad = false) (y : Nat) (hf : findC cs (pre ++ [sign (oneT s st).1]) = some y) : symL s cs (k + 1) pre st = (y, (oneT s st).2) := by
  rw [symL, if_neg (by simp [h]), if_neg (by simp [h2]), hf]
theorem symL_miss (s : ByteArray) (cs : List (Nat × List UInt8)) (k : Nat) (pre : List UInt8) (st : RS) (h : st.bad = false) (h2 : (oneT s st).2.bad = false) (hf : findC cs (pre ++ [sign (oneT s st).1]) = none) : symL s cs (k + 1) pre st = symL s cs k (pre ++ [sign (oneT s st).1]) (oneT s st).2 := by
  rw [symL, if_neg (by simp [h]), if_neg (by simp [h2]), hf]
theorem symL_bad (s : ByteArray) (cs : List (Nat × List UInt8)) (k : Nat) (pre : List UInt8) (st : RS) (h : st.bad = true) : symL s cs k pre st = (0, ⟨st.pos, true⟩) := by
  cases k with
  | zero => rfl
  | succ k => rw [symL, if_pos h]
/-- the row, and what was put out -/
structure US where
  st : RS
  out : List UInt8
def putT (most : Nat) (x : UInt8) (u : US) : US :=
  if most ≤ u.out.length then ⟨⟨u.st.pos, true⟩, u.out⟩ else if u.st.bad = true then u else ⟨u.st, u.out ++ [x]⟩
theorem putT_full (most : Nat) (x : UInt8) (u : US) (h : most ≤ u.out.length) : putT most x u = ⟨⟨u.st.pos, true⟩, u.out⟩ := if_pos h
theorem putT_bad (most : Nat) (x : UInt8) (u : US) (h : ¬ most ≤ u.out.length) (hb : u.st.bad = true) : putT most x u = u := by unfold putT; rw [if_neg h, if_pos hb]
theorem putT_go (most : Nat) (x : UInt8) (u : US) (h : ¬ most ≤ u.out.length) (hb : u.st.bad = false) : putT most x u = ⟨u.st, u.out ++ [x]⟩ := by unfold putT; rw [if_neg h, if_neg (by simp [hb])]
/-- bytes of a block of sort 0 -/
def stL (s : ByteArray) (most : Nat) : Nat → US → US
  | 0, u => u
  | k + 1, u => if u.st.bad = true then u else stL s most k (putT most (UInt8.ofNat (numT s 8 u.st).1) ⟨(numT s 8 u.st).2, u.out⟩)
theorem stL_bad (s : ByteArray) (most k : Nat) (u : US) (h : u.st.bad = true) : stL s most k u = u := by
  cases k with
  | zero => rfl
  | succ k => rw [stL, if_pos h]
theorem stL_go (s : ByteArray) (most k : Nat) (u : US) (h : u.st.bad = false) : stL s most (k + 1) u = stL s most k (putT most (UInt8.ofNat (numT s 8 u.st).1) ⟨(numT s 8 u.st).2, u.out⟩) := by
  rw [stL, if_neg (by simp [h])]
def alignT (st : RS) : RS := ⟨(st.pos + 7) / 8 * 8, st.bad⟩
/-- both lengths of a block of sort 0 -/
def headT (s : ByteArray) (st : RS) : Nat × RS :=
  ((numT s 16 (alignT st)).1, if (numT s 16 (alignT st)).1 + (numT s 16 (numT s 16 (alignT st)).2).1 = 65535 then (numT s 16 (numT s 16 (alignT st)).2).2 else ⟨(numT s 16 (numT s 16 (alignT st)).2).2.pos, true⟩)
def storedT (s : ByteArray) (most : Nat) (u : US) : US := stL s most (headT s u.st).1 ⟨(headT s u.st).2, u.out⟩
theorem lenL_le (j : Nat) : ∀ k x, k + j ≤ 286 → x ≤ lenL j k x ∧ lenL j k x ≤ x + 64 * j := by
  induction j with
  | zero => intro k x _; exact ⟨Nat.le_refl _, Nat.le_refl _⟩
  | succ j ih =>
    intro k x h
    have hp : pw (lenBits k) ≤ 64 := pw_le _ 6 (lenBits_le k (by omega))
    have := ih (k + 1) (x + pw (lenBits k)) (by omega)
    simp only [lenL]; omega
theorem distL_le (j : Nat) : ∀ k x, k + j ≤ 30 → x ≤ distL j k x ∧ distL j k x ≤ x + 8192 * j := by
  induction j with
  | zero => intro k x _; exact ⟨Nat.le_refl _, Nat.le_refl _⟩
  | succ j ih =>
    intro k x h
    have hp : pw (distBits k) ≤ 8192 := pw_le _ 13 (distBits_le k (by omega))
    have := ih (k + 1) (x + pw (distBits k)) (by omega)
    simp only [distL]; omega
theorem lenT_le (y : Nat) (h1 : 257 ≤ y) (h2 : y ≤ 285) : (lenT y).1 ≤ 2000 ∧ (lenT y).2 ≤ 6 := by
  unfold lenT; split
  · refine ⟨?_, ?_⟩
    · simp
    · simp
  · have h := (lenL_le (y - 257) 257 3 (by omega)).2
    have h' := lenBits_le y h2
    dsimp only
    exact ⟨by omega, h'⟩
theorem distT_le (d : Nat) (h : d ≤ 29) : 1 ≤ (distT d).1 ∧ (distT d).1 ≤ 245761 ∧ (distT d).2 ≤ 13 := by
  have := distL_le d 0 1 (by omega)
  have h' := distBits_le d h
  unfold distT
  dsimp only
  exact ⟨this.1, by omega, h'⟩
/-- bytes that come again -/
def cpL (most far : Nat) : Nat → US → US
  | 0, u => u
  | k + 1, u => if u.st.bad = true then u else cpL most far k (putT most (u.out.getD (u.out.length - far) 0) u)
theorem cpL_bad (most far k : Nat) (u : US) (h : u.st.bad = true) : cpL most far k u = u := by
  cases k with
  | zero => rfl
  | succ k => rw [cpL, if_pos h]
theorem cpL_go (most far k : Nat) (u : US) (h : u.st.bad = false) : cpL most far (k + 1) u = cpL most far k (putT most (u.out.getD (u.out.length - far) 0) u) := by
  rw [cpL, if_neg (by simp [h])]
/-- where the row stands behind a length and a distance; how many bytes, how far back; does the block end here? -/
structure Mt where
  st : RS
  n : Nat
  far : Nat
  stop : Bool
def matchT (s : ByteArray) (win len : Nat) (B : List (Nat × List UInt8)) (y : Nat) (st : RS) : Mt :=
  let r1 := numT s (lenT y).2 st
  let r2 := symT s B r1.2
  if 29 < r2.1 then ⟨⟨r2.2.pos, true⟩, 0, 0, true⟩ else
    let r3 := numT s (distT r2.1).2 r2.2
    let far := (distT r2.1).1 + r3.1
    ⟨if win < far ∨ len < far then ⟨r3.2.pos, true⟩ else r3.2, (lenT y).1 + r1.1, far, false⟩
theorem matchT_far (s : ByteArray) (win len : Nat) (B : List (Nat × List UInt8)) (y : Nat) (st : RS) (h : 29 < (symT s B (numT s (lenT y).2 st).2).1) :
    matchT s win len B y st = ⟨⟨(symT s B (numT s (lenT y).2 st).2).2.pos, true⟩, 0, 0, true⟩ := by
  unfold matchT; rw [if_pos h]
theorem matchT_go (s : ByteArray) (win len : Nat) (B : List (Nat × List UInt8)) (y : Nat) (st : RS) (h : ¬ 29 < (symT s B (numT s (lenT y).2 st).2).1) :
    matchT s win len B y st = ⟨if win < (distT (symT s B (numT s (lenT y).2 st).2).1).1 + (numT s (distT (symT s B (numT s (lenT y).2 st).2).1).2 (symT s B (numT s (lenT y).2 st).2).2).1 ∨ len < (distT (symT s B (numT s (lenT y).2 st).2).1).1 + (numT s (distT (symT s B (numT s (lenT y).2 st).2).1).2 (symT s B (numT s (lenT y).2 st).2).2).1 then ⟨(numT s (distT (symT s B (numT s (lenT y).2 st).2).1).2 (symT s B (numT s (lenT y).2 st).2).2).2.pos, true⟩ else (numT s (distT (symT s B (numT s (lenT y).2 st).2).1).2 (symT s B (numT s (lenT y).2 st).2).2).2,
      (lenT y).1 + (numT s (lenT y).2 st).1, (distT (symT s B (numT s (lenT y).2 st).2).1).1 + (numT s (distT (symT s B (numT s (lenT y).2 st).2).1).2 (symT s B (numT s (lenT y).2 st).2).2).1, false⟩ := by
  unfold matchT; rw [if_neg h]
/-- symbols up to 256 -/
def symsF (s : ByteArray) (win most : Nat) (A B : List (Nat × List UInt8)) : Nat → US → US
  | 0, u => u
  | f + 1, u => if u.st.bad = true then u else
      let r := symT s A u.st
      if r.2.bad = true then ⟨r.2, u.out⟩
      else if r.1 < 256 then symsF s win most A B f (putT most (UInt8.ofNat r.1) ⟨r.2, u.out⟩)
      else if r.1 = 256 then ⟨r.2, u.out⟩
      else if 285 < r.1 then ⟨⟨r.2.pos, true⟩, u.out⟩
      else
        let m := matchT s win u.out.length B r.1 r.2
        if m.stop = true then ⟨m.st, u.out⟩
        else symsF s win most A B f (cpL most m.far m.n ⟨m.st, u.out⟩)
theorem symsF_bad (s : ByteArray) (win most : Nat) (A B : List (Nat × List UInt8)) (f : Nat) (u : US) (h : u.st.bad = true) : symsF s win most A B f u = u := by
  cases f with
  | zero => rfl
  | succ f => rw [symsF, if_pos h]
theorem symsF_end (s : ByteArray) (win most : Nat) (A B : List (Nat × List UInt8)) (f : Nat) (u : US) (h : u.st.bad = false) (h2 : (symT s A u.st).2.bad = true) : symsF s win most A B (f + 1) u = ⟨(symT s A u.st).2, u.out⟩ := by
  rw [symsF, if_neg (by simp [h]), if_pos h2]
theorem symsF_put (s : ByteArray) (win most : Nat) (A B : List (Nat × List UInt8)) (f : Nat) (u : US) (h : u.st.bad = false) (h2 : (symT s A u.st).2.bad = false) (h3 : (symT s A u.st).1 < 256) :
    symsF s win most A B (f + 1) u = symsF s win most A B f (putT most (UInt8.ofNat (symT s A u.st).1) ⟨(symT s A u.st).2, u.out⟩) := by
  rw [symsF, if_neg (by simp [h]), if_neg (by simp [h2]), if_pos h3]
theorem symsF_stop (s : ByteArray) (win most : Nat) (A B : List (Nat × List UInt8)) (f : Nat) (u : US) (h : u.st.bad = false) (h2 : (symT s A u.st).2.bad = false) (h3 : (symT s A u.st).1 = 256) :
    symsF s win most A B (f + 1) u = ⟨(symT s A u.st).2, u.out⟩ := by
  rw [symsF, if_neg (by simp [h]), if_neg (by simp [h2]), if_neg (by omega), if_pos h3]
theorem symsF_none (s : ByteArray) (win most : Nat) (A B : List (Nat × List UInt8)) (f : Nat) (u : US) (h : u.st.bad = false) (h2 : (symT s A u.st).2.bad = false) (h3 : 285 < (symT s A u.st).1) :
    symsF s win most A B (f + 1) u = ⟨⟨(symT s A u.st).2.pos, true⟩, u.out⟩ := by
  rw [symsF, if_neg (by simp [h]), if_neg (by simp [h2]), if_neg (by omega), if_neg (by omega), if_pos h3]
theorem symsF_far (s : ByteArray) (win most : Nat) (A B : List (Nat × List UInt8)) (f : Nat) (u : US) (h : u.st.bad = false) (h2 : (symT s A u.st).2.bad = false) (h3 : 257 ≤ (symT s A u.st).1) (h4 : (symT s A u.st).1 ≤ 285)
    (h5 : (matchT s win u.out.length B (symT s A u.st).1 (symT s A u.st).2).stop = true) : symsF s win most A B (f + 1) u = ⟨(matchT s win u.out.length B (symT s A u.st).1 (symT s A u.st).2).st, u.out⟩ := by
  rw [symsF, if_neg (by simp [h]), if_neg (by simp [h2]), if_neg (by omega), if_neg (by omega), if_neg (by omega), if_pos h5]
theorem symsF_copy (s : ByteArray) (win most : Nat) (A B : List (Nat × List UInt8)) (f : Nat) (u : US) (h : u.st.bad = false) (h2 : (symT s A u.st).2.bad = false) (h3 : 257 ≤ (symT s A u.st).1) (h4 : (symT s A u.st).1 ≤ 285)
    (h5 : (matchT s win u.out.length B (symT s A u.st).1 (symT s A u.st).2).stop = false) : symsF s win most A B (f + 1) u = symsF s win most A B f (cpL most (matchT s win u.out.length B (symT s A u.st).1 (symT s A u.st).2).far (matchT s win u.out.length B (symT s A u.st).1 (symT s A u.st).2).n ⟨(matchT s win u.out.length B (symT s A u.st).1 (symT s A u.st).2).st, u.out⟩) := by
  rw [symsF, if_neg (by simp [h]), if_neg (by simp [h2]), if_neg (by omega), if_neg (by omega), if_neg (by omega), if_neg (by simp [h5])]
/-- a bit is taken, or something is bad -/
theorem oneT_more (s : ByteArray) (st : RS) : (oneT s st).2.bad = true ∨ (oneT s st).2.pos = st.pos + 1 := by
  unfold oneT; split
  · exact .inl rfl
  · exact .inr rfl
theorem oneT_ge (s : ByteArray) (st : RS) : st.pos ≤ (oneT s st).2.pos := by
  unfold oneT; split
  · exact Nat.le_refl _
  · exact Nat.le_succ _
theorem numL_ge (s : ByteArray) (k : Nat) : ∀ v u st, st.pos ≤ (numL s k v u st).2.pos := by
  induction k with
  | zero => intro v u st; exact Nat.le_refl _
  | succ k ih => intro v u st; exact Nat.le_trans (oneT_ge s st) (ih _ _ _)
theorem numT_ge (s : ByteArray) (n : Nat) (st : RS) : st.pos ≤ (numT s n st).2.pos := numL_ge s n _ _ st
theorem symL_ge (s : ByteArray) (cs : List (Nat × List UInt8)) (k : Nat) : ∀ pre st, st.pos ≤ (symL s cs k pre st).2.pos := by
  induction k with
  | zero => intro pre st; exact Nat.le_refl _
  | succ k ih =>
    intro pre st
    rw [symL]
    split
    · exact Nat.le_refl _
    · split
      · exact oneT_ge s st
      · split
        · exact oneT_ge s st
        · exact Nat.le_trans (oneT_ge s st) (ih _ _)
theorem symT_ge (s : ByteArray) (cs : List (Nat × List UInt8)) (st : RS) : st.pos ≤ (symT s cs st).2.pos := symL_ge s cs 15 [] st
theorem symT_more (s : ByteArray) (cs : List (Nat × List UInt8)) (st : RS) : (symT s cs st).2.bad = true ∨ st.pos + 1 ≤ (symT s cs st).2.pos := by
  unfold symT
  rw [symL]
  split
  · exact .inl rfl
  · split
    · exact .inl rfl
    · rename_i h
      have hm : (oneT s st).2.pos = st.pos + 1 := (oneT_more s st).resolve_left h
      split
      · exact .inr (by rw [hm]; exact Nat.le_refl _)
      · exact .inr (by rw [← hm]; exact symL_ge _ _ _ _ _)
end Go.Proofs.YtjfifmadldcjjaaGreatDoor.Rf
