/- A block of sort 2: where it is bad. Nothing of the program is named here. -/
import Derived.Test.YtjfifmadldcjjaaGreatDoorAgainMath
namespace Go.Proofs.YtjfifmadldcjjaaGreatDoor.Rf
theorem hdrSt_keep (a b : Nat) (st : RS) (h : st.bad = true) : (hdrSt a b st).bad = true := by
  unfold hdrSt; split
  · rfl
  · exact h
theorem smallL_keep (s : ByteArray) (j : Nat) : ∀ i L st, st.bad = true → (smallL s j i L st).2.bad = true := by
  induction j with
  | zero => intro i L st h; exact h
  | succ j ih => intro i L st h; exact ih _ _ _ (numT_keep s 3 st h)
theorem smSt_keep (m : Nat) (st : RS) (h : st.bad = true) : (smSt m st).bad = true := by
  unfold smSt; split
  · exact h
  · rfl
theorem lensT_keep (s : ByteArray) (a b n : Nat) (st : RS) (h : (smSt (codesT (smallL s n 0 (List.replicate 19 0) st).1).much (smallL s n 0 (List.replicate 19 0) st).2).bad = true) : (lensT s a b n st).2.bad = true := by
  unfold lensT
  rw [lensF_bad _ _ _ _ _ _ h]; exact h
theorem finT_badly (s : ByteArray) (win most a b : Nat) (out : List UInt8) (L : List Nat) (st : RS) (h : st.bad = true ∨ L.length ≠ a + b) : (finT s win most a b out L st).st.bad = true := by
  rw [finT_bad s win most a b out L st h]
/-- the head of a block of sort 2 -/
def hdrT (s : ByteArray) (st : RS) : Nat × Nat × Nat × RS :=
  ((numT s 5 st).1 + 257, (numT s 5 (numT s 5 st).2).1 + 1, (numT s 4 (numT s 5 (numT s 5 st).2).2).1 + 4, hdrSt ((numT s 5 st).1 + 257) ((numT s 5 (numT s 5 st).2).1 + 1) (numT s 4 (numT s 5 (numT s 5 st).2).2).2)
theorem ownT_is (s : ByteArray) (win most : Nat) (u : US) : ownT s win most u = finT s win most (hdrT s u.st).1 (hdrT s u.st).2.1 u.out (lensT s (hdrT s u.st).1 (hdrT s u.st).2.1 (hdrT s u.st).2.2.1 (hdrT s u.st).2.2.2).1 (lensT s (hdrT s u.st).1 (hdrT s u.st).2.1 (hdrT s u.st).2.2.1 (hdrT s u.st).2.2.2).2 := rfl
theorem own_hdr (s : ByteArray) (win most : Nat) (u : US) (h : (hdrT s u.st).2.2.2.bad = true) : (ownT s win most u).st.bad = true := by
  rw [ownT_is]
  exact finT_badly _ _ _ _ _ _ _ _ (.inl (lensT_keep _ _ _ _ _ (smSt_keep _ _ (smallL_keep _ _ _ _ _ h))))
/-- the nineteen lengths -/
def smT (s : ByteArray) (n : Nat) (st : RS) : List Nat × RS := smallL s n 0 (List.replicate 19 0) st
theorem own_small (s : ByteArray) (win most : Nat) (u : US) (h : (smSt (codesT (smT s (hdrT s u.st).2.2.1 (hdrT s u.st).2.2.2).1).much (smT s (hdrT s u.st).2.2.1 (hdrT s u.st).2.2.2).2).bad = true) : (ownT s win most u).st.bad = true := by
  rw [ownT_is]
  exact finT_badly _ _ _ _ _ _ _ _ (.inl (lensT_keep _ _ _ _ _ h))
theorem smT_len (s : ByteArray) (n : Nat) (st : RS) : (smT s n st).1.length = 19 := by unfold smT; rw [smallL_len]; simp
theorem smT_le (s : ByteArray) (n : Nat) (st : RS) : ∀ x ∈ (smT s n st).1, x ≤ 15 := smallL_le s n 0 _ st (fun x hx => by rw [List.eq_of_mem_replicate hx]; omega)
/-- how lengths fit, by number: none, single, full -/
theorem cnt_zero_much (L : List Nat) (h : cnt L = 0) : muchL L = 0 := by
  induction L with
  | nil => rfl
  | cons x L ih =>
    have hx : ¬ 0 < x := by
      intro hx
      unfold cnt at h
      simp [hx] at h
    have h2 : cnt L = 0 := by
      unfold cnt at h ⊢
      simpa [List.filter_cons, hx] using h
    unfold muchL at *
    rw [List.map_cons, List.sum_cons, if_neg hx, ih h2]
end Go.Proofs.YtjfifmadldcjjaaGreatDoor.Rf
