/- The document's blocks and Inflate as functions on plain data; the row never goes back. Nothing of the program is named here. -/
import Derived.Test.YtjfifmadldcjjaaGreatDoorRefMath2
namespace Go.Proofs.YtjfifmadldcjjaaGreatDoor.Rf
theorem putT_pos (most : Nat) (x : UInt8) (u : US) : (putT most x u).st.pos = u.st.pos := by
  unfold putT; split
  · rfl
  · split <;> rfl
theorem stL_ge (s : ByteArray) (most k : Nat) : ∀ u, u.st.pos ≤ (stL s most k u).st.pos := by
  induction k with
  | zero => intro u; exact Nat.le_refl _
  | succ k ih =>
    intro u
    rw [stL]; split
    · exact Nat.le_refl _
    · refine Nat.le_trans ?_ (ih _)
      rw [putT_pos]; exact numT_ge s 8 u.st
theorem alignT_ge (st : RS) : st.pos ≤ (alignT st).pos := by unfold alignT; show st.pos ≤ (st.pos + 7) / 8 * 8; omega
theorem headT_ge (s : ByteArray) (st : RS) : st.pos ≤ (headT s st).2.pos := by
  have h : st.pos ≤ (numT s 16 (numT s 16 (alignT st)).2).2.pos := Nat.le_trans (alignT_ge st) (Nat.le_trans (numT_ge s 16 _) (numT_ge s 16 _))
  unfold headT
  dsimp only
  split <;> exact h
theorem storedT_ge (s : ByteArray) (most : Nat) (u : US) : u.st.pos ≤ (storedT s most u).st.pos := Nat.le_trans (headT_ge s u.st) (stL_ge s most _ ⟨(headT s u.st).2, u.out⟩)
theorem cpL_pos (most far k : Nat) : ∀ u, (cpL most far k u).st.pos = u.st.pos := by
  induction k with
  | zero => intro u; rfl
  | succ k ih =>
    intro u
    rw [cpL]; split
    · rfl
    · rw [ih, putT_pos]
theorem matchT_ge (s : ByteArray) (win len : Nat) (B : List (Nat × List UInt8)) (y : Nat) (st : RS) : st.pos ≤ (matchT s win len B y st).st.pos := by
  have h1 := numT_ge s (lenT y).2 st
  have h2 := symT_ge s B (numT s (lenT y).2 st).2
  unfold matchT
  dsimp only
  split
  · exact Nat.le_trans h1 h2
  · have h3 := numT_ge s (distT (symT s B (numT s (lenT y).2 st).2).1).2 (symT s B (numT s (lenT y).2 st).2).2
    dsimp only
    split <;> exact Nat.le_trans h1 (Nat.le_trans h2 h3)
theorem symsF_ge (s : ByteArray) (win most : Nat) (A B : List (Nat × List UInt8)) (f : Nat) : ∀ u, u.st.pos ≤ (symsF s win most A B f u).st.pos := by
  induction f with
  | zero => intro u; exact Nat.le_refl _
  | succ f ih =>
    intro u
    have h1 := symT_ge s A u.st
    rw [symsF]
    dsimp only
    split
    · exact Nat.le_refl _
    · split
      · exact h1
      · split
        · refine Nat.le_trans ?_ (ih _); rw [putT_pos]; exact h1
        · split
          · exact h1
          · split
            · exact h1
            · have h2 := matchT_ge s win u.out.length B (symT s A u.st).1 (symT s A u.st).2
              split
              · exact Nat.le_trans h1 h2
              · refine Nat.le_trans ?_ (ih _); rw [cpL_pos]; exact Nat.le_trans h1 h2
theorem smallL_ge (s : ByteArray) (j : Nat) : ∀ i L st, st.pos ≤ (smallL s j i L st).2.pos := by
  induction j with
  | zero => intro i L st; exact Nat.le_refl _
  | succ j ih => intro i L st; exact Nat.le_trans (numT_ge s 3 st) (ih _ _ _)
theorem lensF_ge (s : ByteArray) (N : Nat) (cs : List (Nat × List UInt8)) (f : Nat) : ∀ L st, st.pos ≤ (lensF s N cs f L st).2.pos := by
  induction f with
  | zero => intro L st; exact Nat.le_refl _
  | succ f ih =>
    intro L st
    have h1 := symT_ge s cs st
    rw [lensF]
    split
    · split
      · exact Nat.le_refl _
      · have hs : ∀ y zst, (match lenStep s L y zst with | .inl (_, _, st') => zst.pos ≤ st'.pos | .inr st' => zst.pos ≤ st'.pos) := by
          intro y zst
          unfold lenStep
          by_cases h16 : y = 16
          · rw [if_pos h16]
            by_cases h0 : L.length = 0
            · rw [if_pos h0]; exact numT_ge s 2 zst
            · rw [if_neg h0]; exact numT_ge s 2 zst
          · rw [if_neg h16]
            by_cases h17 : y = 17
            · rw [if_pos h17]; exact numT_ge s 3 zst
            · rw [if_neg h17]
              by_cases h18 : y = 18
              · rw [if_pos h18]; exact numT_ge s 7 zst
              · rw [if_neg h18]; exact Nat.le_refl _
        have h2 := hs (symT s cs st).1 (symT s cs st).2
        split
        · rename_i v k st' e; rw [e] at h2; exact Nat.le_trans h1 (Nat.le_trans h2 (ih _ _))
        · rename_i st' e; rw [e] at h2; exact Nat.le_trans h1 h2
    · exact Nat.le_refl _
theorem hdrSt_pos (a b : Nat) (st : RS) : (hdrSt a b st).pos = st.pos := by unfold hdrSt; split <;> rfl
theorem smSt_pos (m : Nat) (st : RS) : (smSt m st).pos = st.pos := by unfold smSt; split <;> rfl
theorem finT_ge (s : ByteArray) (win most a b : Nat) (out : List UInt8) (L : List Nat) (st : RS) : st.pos ≤ (finT s win most a b out L st).st.pos := by
  unfold finT; split
  · exact Nat.le_refl _
  · split
    · exact Nat.le_refl _
    · exact symsF_ge s win most _ _ _ ⟨st, out⟩
theorem lensT_ge (s : ByteArray) (a b n : Nat) (st : RS) : st.pos ≤ (lensT s a b n st).2.pos := by
  unfold lensT
  refine Nat.le_trans ?_ (lensF_ge s _ _ _ _ _)
  rw [smSt_pos]; exact smallL_ge s _ _ _ _
theorem ownT_ge (s : ByteArray) (win most : Nat) (u : US) : u.st.pos ≤ (ownT s win most u).st.pos := by
  unfold ownT
  dsimp only
  refine Nat.le_trans ?_ (finT_ge s win most _ _ u.out _ _)
  refine Nat.le_trans ?_ (lensT_ge s _ _ _ _)
  rw [hdrSt_pos]
  exact Nat.le_trans (numT_ge s 5 u.st) (Nat.le_trans (numT_ge s 5 _) (numT_ge s 4 _))
theorem oneT_keep (s : ByteArray) (st : RS) (h : st.bad = true) : (oneT s st).2.bad = true := by rw [oneT_bad s st (.inl h)]
theorem numL_keep (s : ByteArray) (k : Nat) : ∀ v u st, st.bad = true → (numL s k v u st).2.bad = true := by
  induction k with
  | zero => intro v u st h; exact h
  | succ k ih => intro v u st h; exact ih _ _ _ (oneT_keep s st h)
theorem numT_keep (s : ByteArray) (n : Nat) (st : RS) (h : st.bad = true) : (numT s n st).2.bad = true := numL_keep s n _ _ st h
/-- the fixed codes' lengths -/
def fixLen (i : Nat) : Nat := if 144 ≤ i ∧ i < 256 then 9 else if 256 ≤ i ∧ i < 280 then 7 else 8
def fixList : List Nat := (List.range 288).map fixLen
/-- a block behind its head -/
def sortT (s : ByteArray) (win most : Nat) (y : Nat) (u : US) : US :=
  if u.st.bad = true then u else if y = 0 then storedT s most u else if y = 1 then symsF s win most (codesT fixList).cs (codesT (List.replicate 32 5)).cs (8 * s.size + 1) u
  else if y = 2 then ownT s win most u else ⟨⟨u.st.pos, true⟩, u.out⟩
theorem sortT_ge (s : ByteArray) (win most y : Nat) (u : US) : u.st.pos ≤ (sortT s win most y u).st.pos := by
  unfold sortT
  split
  · exact Nat.le_refl _
  · split
    · exact storedT_ge s most u
    · split
      · exact symsF_ge s win most _ _ _ u
      · split
        · exact ownT_ge s win most u
        · exact Nat.le_refl _
/-- one block: the bit that says whether it is the last one, and what is behind it -/
def blkT (s : ByteArray) (win most : Nat) (u : US) : Nat × US :=
  ((oneT s u.st).1, sortT s win most (numT s 2 (oneT s u.st).2).1 ⟨(numT s 2 (oneT s u.st).2).2, u.out⟩)
def blkF (s : ByteArray) (win most : Nat) : Nat → US → US
  | 0, u => u
  | f + 1, u => if u.st.bad = true then u else if (blkT s win most u).1 = 0 then blkF s win most f (blkT s win most u).2 else (blkT s win most u).2
theorem blkF_bad (s : ByteArray) (win most f : Nat) (u : US) (h : u.st.bad = true) : blkF s win most f u = u := by
  cases f with
  | zero => rfl
  | succ f => rw [blkF, if_pos h]
theorem blkF_go (s : ByteArray) (win most f : Nat) (u : US) (h : u.st.bad = false) (h2 : (blkT s win most u).1 = 0) : blkF s win most (f + 1) u = blkF s win most f (blkT s win most u).2 := by
  rw [blkF, if_neg (by simp [h]), if_pos h2]
theorem blkF_end (s : ByteArray) (win most f : Nat) (u : US) (h : u.st.bad = false) (h2 : (blkT s win most u).1 ≠ 0) : blkF s win most (f + 1) u = (blkT s win most u).2 := by
  rw [blkF, if_neg (by simp [h]), if_neg h2]
end Go.Proofs.YtjfifmadldcjjaaGreatDoor.Rf
