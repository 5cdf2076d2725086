/- The document's block of sort 2, its blocks, and Inflate, turned word for word into functions on plain data. Nothing of the program is named here. -/
import Derived.Test.YtjfifmadldcjjaaGreatDoorRefMath
namespace Go.Proofs.YtjfifmadldcjjaaGreatDoor.Rf
/-- is just one length not 0? -/
def cnt (L : List Nat) : Nat := (L.filter fun x => decide (0 < x)).length
def singleT (L : List Nat) : Bool := cnt L == 1
theorem cnt_snoc (L : List Nat) (x : Nat) : cnt (L ++ [x]) = cnt L + if 0 < x then 1 else 0 := by
  unfold cnt; rw [List.filter_append]
  by_cases h : 0 < x <;> simp [h]
theorem cnt_le (L : List Nat) : cnt L ≤ L.length := List.length_filter_le _ _
/-- the order in which the lengths of the nineteen come -/
def order : List Nat := [16, 17, 18, 0, 8, 7, 9, 6, 10, 5, 11, 4, 12, 3, 13, 2, 14, 1, 15]
/-- the lengths of the nineteen -/
def smallL (s : ByteArray) : Nat → Nat → List Nat → RS → List Nat × RS
  | 0, _, L, st => (L, st)
  | j + 1, i, L, st => smallL s j (i + 1) (L.set (order.getD i 0) (numT s 3 st).1) (numT s 3 st).2
/-- one symbol of the lengths: which length, how often, where the row stands; .inr: 16 with none ahead -/
def lenStep (s : ByteArray) (L : List Nat) (y : Nat) (st : RS) : (Nat × Nat × RS) ⊕ RS :=
  if y = 16 then (if L.length = 0 then .inr ⟨(numT s 2 st).2.pos, true⟩ else .inl (L.getD (L.length - 1) 0, 3 + (numT s 2 st).1, (numT s 2 st).2))
  else if y = 17 then .inl (0, 3 + (numT s 3 st).1, (numT s 3 st).2)
  else if y = 18 then .inl (0, 11 + (numT s 7 st).1, (numT s 7 st).2)
  else .inl (y, 1, st)
/-- the lengths of literal and distance symbols -/
def lensF (s : ByteArray) (N : Nat) (cs : List (Nat × List UInt8)) : Nat → List Nat → RS → List Nat × RS
  | 0, L, st => (L, st)
  | f + 1, L, st => if L.length < N then (if st.bad = true then (L, st) else
      match lenStep s L (symT s cs st).1 (symT s cs st).2 with
      | .inl (v, k, st') => lensF s N cs f (L ++ List.replicate k v) st'
      | .inr st' => (L, st')) else (L, st)
theorem lensF_full (s : ByteArray) (N : Nat) (cs : List (Nat × List UInt8)) (f : Nat) (L : List Nat) (st : RS) (h : ¬ L.length < N) : lensF s N cs f L st = (L, st) := by
  cases f with
  | zero => rfl
  | succ f => rw [lensF, if_neg h]
theorem lensF_bad (s : ByteArray) (N : Nat) (cs : List (Nat × List UInt8)) (f : Nat) (L : List Nat) (st : RS) (h : st.bad = true) : lensF s N cs f L st = (L, st) := by
  cases f with
  | zero => rfl
  | succ f =>
    rw [lensF]
    by_cases hl : L.length < N
    · rw [if_pos hl, if_pos h]
    · rw [if_neg hl]
theorem lensF_go (s : ByteArray) (N : Nat) (cs : List (Nat × List UInt8)) (f : Nat) (L : List Nat) (st : RS) (h : L.length < N) (hb : st.bad = false) (v k : Nat) (st' : RS) (e : lenStep s L (symT s cs st).1 (symT s cs st).2 = .inl (v, k, st')) :
    lensF s N cs (f + 1) L st = lensF s N cs f (L ++ List.replicate k v) st' := by
  rw [lensF, if_pos h, if_neg (by simp [hb]), e]
theorem lensF_stop (s : ByteArray) (N : Nat) (cs : List (Nat × List UInt8)) (f : Nat) (L : List Nat) (st : RS) (h : L.length < N) (hb : st.bad = false) (st' : RS) (e : lenStep s L (symT s cs st).1 (symT s cs st).2 = .inr st') :
    lensF s N cs (f + 1) L st = (L, st') := by
  rw [lensF, if_pos h, if_neg (by simp [hb]), e]
/-- which symbols a list of codes has -/
theorem innerC_sym (L : List Nat) (n N : Nat) (j : Nat) : ∀ s st, s + j ≤ N → (∀ c ∈ st.cs, c.1 < N) → ∀ c ∈ (innerC L n j s st).cs, c.1 < N := by
  induction j with
  | zero => intro s st _ h; exact h
  | succ j ih =>
    intro s st hs h
    refine ih (s + 1) _ (by omega) ?_
    unfold stepC
    split
    · intro c hc
      rcases List.mem_append.1 hc with hc | hc
      · exact h c hc
      · simp at hc; subst hc; show s < N; omega
    · exact h
theorem outerC_sym (L : List Nat) (j : Nat) : ∀ n st, (∀ c ∈ st.cs, c.1 < L.length) → ∀ c ∈ (outerC L j n st).cs, c.1 < L.length := by
  induction j with
  | zero => intro n st h; exact h
  | succ j ih => intro n st h; exact ih _ _ (innerC_sym L n L.length L.length 0 st (by omega) h)
theorem codesT_sym (L : List Nat) : ∀ c ∈ (codesT L).cs, c.1 < L.length := outerC_sym L 15 1 _ (by intro c hc; cases hc)
theorem findC_mem (cs : List (Nat × List UInt8)) (p : List UInt8) (y N : Nat) (h : ∀ c ∈ cs, c.1 < N) (e : findC cs p = some y) : y < N := by
  unfold findC at e
  obtain ⟨c, hc, rfl⟩ := Option.map_eq_some_iff.1 e
  exact h c (List.mem_of_find?_eq_some hc)
theorem symL_sym (s : ByteArray) (cs : List (Nat × List UInt8)) (N : Nat) (hN : 0 < N) (h : ∀ c ∈ cs, c.1 < N) (k : Nat) : ∀ pre st, (symL s cs k pre st).1 < N := by
  induction k with
  | zero => intro pre st; exact hN
  | succ k ih =>
    intro pre st
    rw [symL]
    split
    · exact hN
    · split
      · exact hN
      · split
        · rename_i y e; exact findC_mem cs _ y N h e
        · exact ih _ _
theorem symT_sym (s : ByteArray) (L : List Nat) (st : RS) (h : 0 < L.length) : (symT s (codesT L).cs st).1 < L.length := symL_sym s _ _ h (codesT_sym L) 15 [] st
/-- a block of sort 2: how many of each; what is too many is bad -/
def hdrSt (a b : Nat) (st : RS) : RS := if 286 < a ∨ 30 < b then ⟨st.pos, true⟩ else st
def smSt (m : Nat) (st : RS) : RS := if m = 32768 then st else ⟨st.pos, true⟩
def loneT (a : Nat) (L : List Nat) : Bool := (codesT (L.take a)).much == 16384 && L.getD 256 0 == 1
def noneT (a : Nat) (L : List Nat) : Bool := (codesT (L.drop a)).much == 0 || ((codesT (L.drop a)).much == 16384 && singleT (L.drop a))
def wrongT (a : Nat) (L : List Nat) : Bool := L.getD 256 0 == 0 || ((codesT (L.take a)).much != 32768 && !(loneT a L && singleT (L.take a))) || ((codesT (L.drop a)).much != 32768 && !noneT a L)
def finT (s : ByteArray) (win most a b : Nat) (out : List UInt8) (L : List Nat) (st : RS) : US :=
  if st.bad = true ∨ L.length ≠ a + b then ⟨⟨st.pos, true⟩, out⟩ else
  if wrongT a L = true then ⟨⟨st.pos, true⟩, out⟩ else symsF s win most (codesT (L.take a)).cs (codesT (L.drop a)).cs (8 * s.size + 1) ⟨st, out⟩
def lensT (s : ByteArray) (a b n : Nat) (st : RS) : List Nat × RS :=
  lensF s (a + b) (codesT (smallL s n 0 (List.replicate 19 0) st).1).cs (a + b + 1) [] (smSt (codesT (smallL s n 0 (List.replicate 19 0) st).1).much (smallL s n 0 (List.replicate 19 0) st).2)
def ownT (s : ByteArray) (win most : Nat) (u : US) : US :=
  let r1 := numT s 5 u.st
  let r2 := numT s 5 r1.2
  let r3 := numT s 4 r2.2
  let l := lensT s (r1.1 + 257) (r2.1 + 1) (r3.1 + 4) (hdrSt (r1.1 + 257) (r2.1 + 1) r3.2)
  finT s win most (r1.1 + 257) (r2.1 + 1) u.out l.1 l.2
theorem smallL_len (s : ByteArray) (j : Nat) : ∀ i L st, (smallL s j i L st).1.length = L.length := by
  induction j with
  | zero => intro i L st; rfl
  | succ j ih => intro i L st; simp only [smallL]; rw [ih]; simp
theorem smallL_le (s : ByteArray) (j : Nat) : ∀ i L st, (∀ x ∈ L, x ≤ 15) → ∀ x ∈ (smallL s j i L st).1, x ≤ 15 := by
  induction j with
  | zero => intro i L st h; exact h
  | succ j ih =>
    intro i L st h
    refine ih _ _ _ (fun x hx => ?_)
    rcases List.mem_or_eq_of_mem_set hx with hx | hx
    · exact h x hx
    · subst hx; have := numT_lt s 3 st; omega
theorem getD_le (L : List Nat) (N : Nat) (h : ∀ x ∈ L, x ≤ N) (i : Nat) : L.getD i 0 ≤ N := by
  by_cases hi : i < L.length
  · simp only [List.getD, List.getElem?_eq_getElem hi, Option.getD_some]; exact h _ (List.getElem_mem hi)
  · simp [List.getD, List.getElem?_eq_none (show L.length ≤ i by omega)]
theorem finT_bad (s : ByteArray) (win most a b : Nat) (out : List UInt8) (L : List Nat) (st : RS) (h : st.bad = true ∨ L.length ≠ a + b) : finT s win most a b out L st = ⟨⟨st.pos, true⟩, out⟩ := if_pos h
theorem finT_wrong (s : ByteArray) (win most a b : Nat) (out : List UInt8) (L : List Nat) (st : RS) (h : st.bad = false) (hl : L.length = a + b) (hw : wrongT a L = true) : finT s win most a b out L st = ⟨⟨st.pos, true⟩, out⟩ := by
  unfold finT; rw [if_neg (by simp [h, hl]), if_pos hw]
theorem finT_go (s : ByteArray) (win most a b : Nat) (out : List UInt8) (L : List Nat) (st : RS) (h : st.bad = false) (hl : L.length = a + b) (hw : wrongT a L = false) : finT s win most a b out L st = symsF s win most (codesT (L.take a)).cs (codesT (L.drop a)).cs (8 * s.size + 1) ⟨st, out⟩ := by
  unfold finT; rw [if_neg (by simp [h, hl]), if_neg (by simp [hw])]
theorem codesT_much (L : List Nat) (h : L.length ≤ 400) : (codesT L).much ≤ 1000000000 := by
  have h1 := (outerC_ok L 15 1 ⟨[], 0, 0, 0⟩ 0 (by omega) ⟨by simp, by simp, by simp, by simp⟩)
  have h2 := h1.2.2.1
  have h3 := h1.2.2.2
  unfold codesT
  omega
end Go.Proofs.YtjfifmadldcjjaaGreatDoor.Rf
