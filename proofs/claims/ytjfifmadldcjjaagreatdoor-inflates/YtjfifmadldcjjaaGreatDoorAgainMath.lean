/- Bytes that come again, as the document has them, and in the order in which the program asks. Nothing of the program is named here. -/
import Derived.Test.YtjfifmadldcjjaaGreatDoorCodeMath
namespace Go.Proofs.YtjfifmadldcjjaaGreatDoor.Rf
def againT (s : ByteArray) (win most : Nat) (B : List (Nat × List UInt8)) (y : Nat) (u : US) : US :=
  if (matchT s win u.out.length B y u.st).stop = true then ⟨(matchT s win u.out.length B y u.st).st, u.out⟩ else cpL most (matchT s win u.out.length B y u.st).far (matchT s win u.out.length B y u.st).n ⟨(matchT s win u.out.length B y u.st).st, u.out⟩
theorem symL_zero (s : ByteArray) (cs : List (Nat × List UInt8)) (k : Nat) : ∀ pre st, (symL s cs k pre st).2.bad = true → (symL s cs k pre st).1 = 0 := by
  induction k with
  | zero => intro pre st _; rfl
  | succ k ih =>
    intro pre st h
    rw [symL] at h ⊢
    by_cases h1 : st.bad = true
    · rw [if_pos h1]
    · rw [if_neg h1] at h ⊢
      by_cases h2 : (oneT s st).2.bad = true
      · rw [if_pos h2]
      · rw [if_neg h2] at h ⊢
        split at h
        · exact absurd h h2
        · exact ih _ _ h
theorem symT_zero (s : ByteArray) (cs : List (Nat × List UInt8)) (st : RS) (h : (symT s cs st).2.bad = true) : (symT s cs st).1 = 0 := symL_zero s cs 15 [] st h
theorem symT_keep (s : ByteArray) (cs : List (Nat × List UInt8)) (st : RS) (h : st.bad = true) : (symT s cs st).2.bad = true := by
  unfold symT; rw [symL_bad s cs 15 [] st h]
theorem again_bad {s : ByteArray} {win most : Nat} {B : List (Nat × List UInt8)} {y : Nat} {u : US} (h : (matchT s win u.out.length B y u.st).st.bad = true) : (againT s win most B y u).st.bad = true := by
  unfold againT
  split
  · exact h
  · rw [cpL_bad _ _ _ _ h]; exact h
theorem again_dist {s : ByteArray} {win most : Nat} {B : List (Nat × List UInt8)} {y : Nat} {u : US} (h : (symT s B (numT s (lenT y).2 u.st).2).2.bad = true) : (againT s win most B y u).st.bad = true := by
  apply again_bad
  have h0 := symT_zero s B _ h
  rw [matchT_go s win u.out.length B y u.st (by omega)]
  dsimp only
  split
  · rfl
  · exact numT_keep s _ _ h
theorem again_len {s : ByteArray} {win most : Nat} {B : List (Nat × List UInt8)} {y : Nat} {u : US} (h : (numT s (lenT y).2 u.st).2.bad = true) : (againT s win most B y u).st.bad = true := again_dist (symT_keep s B _ h)
theorem again_far {s : ByteArray} {win most : Nat} {B : List (Nat × List UInt8)} {y : Nat} {u : US} (h : 29 < (symT s B (numT s (lenT y).2 u.st).2).1) : (againT s win most B y u).st.bad = true := by
  apply again_bad
  rw [matchT_far s win u.out.length B y u.st h]
theorem again_more {s : ByteArray} {win most : Nat} {B : List (Nat × List UInt8)} {y : Nat} {u : US} (h0 : ¬ 29 < (symT s B (numT s (lenT y).2 u.st).2).1)
    (h : (numT s (distT (symT s B (numT s (lenT y).2 u.st).2).1).2 (symT s B (numT s (lenT y).2 u.st).2).2).2.bad = true) : (againT s win most B y u).st.bad = true := by
  apply again_bad
  rw [matchT_go s win u.out.length B y u.st h0]
  dsimp only
  split
  · rfl
  · exact h
theorem cpL_over (most far : Nat) (n : Nat) : ∀ u : US, most < u.out.length + n → u.out.length ≤ most → (cpL most far n u).st.bad = true := by
  induction n with
  | zero => intro u h h2; omega
  | succ n ih =>
    intro u h h2
    by_cases hb : u.st.bad = true
    · rw [cpL_bad _ _ _ _ hb]; exact hb
    · have hb' : u.st.bad = false := by simpa using hb
      rw [cpL_go most far n u hb']
      by_cases hf : most ≤ u.out.length
      · rw [putT_full most _ u hf]
        rw [cpL_bad _ _ _ _ rfl]
      · rw [putT_go most _ u hf hb']
        exact ih _ (by simp; omega) (by simp; omega)
theorem again_over {s : ByteArray} {win most : Nat} {B : List (Nat × List UInt8)} {y : Nat} {u : US} (hl : u.out.length ≤ most) (h : ¬ u.out.length + ((lenT y).1 + (numT s (lenT y).2 u.st).1) ≤ most) : (againT s win most B y u).st.bad = true := by
  by_cases h0 : 29 < (symT s B (numT s (lenT y).2 u.st).2).1
  · exact again_far h0
  · unfold againT
    rw [matchT_go s win u.out.length B y u.st h0]
    rw [if_neg (by simp)]
    exact cpL_over most _ _ _ (by dsimp only; omega) hl
theorem again_go {s : ByteArray} {win most : Nat} {B : List (Nat × List UInt8)} {y pos p1 p2 p3 n1 d n3 : Nat} {out : List UInt8} (h1 : numT s (lenT y).2 ⟨pos, false⟩ = (n1, ⟨p1, false⟩)) (h2 : symT s B ⟨p1, false⟩ = (d, ⟨p2, false⟩)) (h3 : d ≤ 29) (h4 : numT s (distT d).2 ⟨p2, false⟩ = (n3, ⟨p3, false⟩)) :
    againT s win most B y ⟨⟨pos, false⟩, out⟩ = if win < (distT d).1 + n3 ∨ out.length < (distT d).1 + n3 then ⟨⟨p3, true⟩, out⟩ else cpL most ((distT d).1 + n3) ((lenT y).1 + n1) ⟨⟨p3, false⟩, out⟩ := by
  unfold againT
  rw [matchT_go s win out.length B y ⟨pos, false⟩ (by rw [h1, h2]; exact Nat.not_lt.2 h3)]
  rw [if_neg (by simp)]
  dsimp only
  rw [h1]
  dsimp only
  rw [h2]
  dsimp only
  rw [h4]
  dsimp only
  by_cases h : win < (distT d).1 + n3 ∨ out.length < (distT d).1 + n3
  · rw [if_pos h, if_pos h, cpL_bad _ _ _ _ rfl]
  · rw [if_neg h, if_neg h]
theorem symsF_again (s : ByteArray) (win most : Nat) (A B : List (Nat × List UInt8)) (f : Nat) (u : US) (h : u.st.bad = false) (h2 : (symT s A u.st).2.bad = false) (h3 : 257 ≤ (symT s A u.st).1) (h4 : (symT s A u.st).1 ≤ 285) :
    symsF s win most A B (f + 1) u = (if (matchT s win u.out.length B (symT s A u.st).1 (symT s A u.st).2).stop = true then againT s win most B (symT s A u.st).1 ⟨(symT s A u.st).2, u.out⟩ else symsF s win most A B f (againT s win most B (symT s A u.st).1 ⟨(symT s A u.st).2, u.out⟩)) := by
  unfold againT
  dsimp only
  by_cases hs : (matchT s win u.out.length B (symT s A u.st).1 (symT s A u.st).2).stop = true
  · rw [if_pos hs, symsF_far s win most A B f u h h2 h3 h4 hs, if_pos hs]
  · rw [if_neg hs, symsF_copy s win most A B f u h h2 h3 h4 (by simpa using hs), if_neg hs]
/-- where the block stops so, it is bad -/
theorem matchT_stop (s : ByteArray) (win len : Nat) (B : List (Nat × List UInt8)) (y : Nat) (st : RS) (h : (matchT s win len B y st).stop = true) : (matchT s win len B y st).st.bad = true := by
  by_cases h0 : 29 < (symT s B (numT s (lenT y).2 st).2).1
  · rw [matchT_far s win len B y st h0]
  · rw [matchT_go s win len B y st h0] at h; simp at h
theorem lenT_ge (y : Nat) (h1 : 257 ≤ y) (h2 : y ≤ 285) : 3 ≤ (lenT y).1 := by
  unfold lenT
  split
  · dsimp only; omega
  · have h := (lenL_le (y - 257) 257 3 (by omega)).1
    dsimp only
    generalize lenL (y - 257) 257 3 = z at *
    exact h
end Go.Proofs.YtjfifmadldcjjaaGreatDoor.Rf
