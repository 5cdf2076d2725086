/- Codes by counting against codes that are written out. Nothing of the program is named here. -/
import Derived.Test.YtjfifmadldcjjaaGreatDoorBitMath
namespace Go.Proofs.YtjfifmadldcjjaaGreatDoor.Rf
/-- how many symbols have a code of length n -/
def cN (L : List Nat) (n : Nat) : Nat := if n = 0 then 0 else L.count n
/-- the first code of length n, as a number -/
def fN (L : List Nat) : Nat → Nat
  | 0 => 0
  | n + 1 => 2 * (fN L n + cN L n)
/-- how many codes are shorter than n -/
def sN (L : List Nat) : Nat → Nat
  | 0 => 0
  | n + 1 => sN L n + cN L n
/-- how many rows of 15 bits begin with a code shorter than n -/
def kN (L : List Nat) : Nat → Nat
  | 0 => 0
  | n + 1 => kN L n + cN L n * pw (15 - n)
/-- the symbols below m that have length n, in their order -/
def symsTo (L : List Nat) (n m : Nat) : List Nat := (List.range m).filter fun s => L.getD s 0 == n
def symsAt (L : List Nat) (n : Nat) : List Nat := if n = 0 then [] else symsTo L n L.length
/-- all symbols that have a code shorter than n, in the order of their codes -/
def ordN (L : List Nat) : Nat → List Nat
  | 0 => []
  | n + 1 => ordN L n ++ symsAt L n
theorem symsTo_succ (L : List Nat) (n m : Nat) : symsTo L n (m + 1) = if L.getD m 0 = n then symsTo L n m ++ [m] else symsTo L n m := by
  unfold symsTo
  rw [List.range_succ, List.filter_append]
  by_cases h : L.getD m 0 = n
  · rw [if_pos h]; simp only [List.filter_cons, List.filter_nil, h, beq_self_eq_true, if_true]
  · rw [if_neg h]; simp only [List.filter_cons, List.filter_nil, beq_eq_false_iff_ne.2 h, Bool.false_eq_true, if_false, List.append_nil]
theorem symsTo_len (L : List Nat) (n : Nat) : ∀ m, m ≤ L.length → (symsTo L n m).length = (L.take m).count n := by
  intro m
  induction m with
  | zero => intro _; simp [symsTo]
  | succ m ih =>
    intro h
    have hm : L.getD m 0 = L[m]'(by omega) := by simp [List.getD, List.getElem?_eq_getElem (show m < L.length by omega)]
    rw [symsTo_succ, List.take_succ_eq_append_getElem (by omega), List.count_append, ← ih (by omega)]
    by_cases h2 : L.getD m 0 = n
    · rw [if_pos h2]; rw [hm] at h2; simp [h2]
    · rw [if_neg h2]; rw [hm] at h2; simp [h2]
theorem symsAt_len (L : List Nat) (n : Nat) : (symsAt L n).length = cN L n := by
  unfold symsAt cN
  by_cases h : n = 0
  · simp [h]
  · rw [if_neg h, if_neg h, symsTo_len L n L.length (Nat.le_refl _), List.take_length]
theorem ordN_len (L : List Nat) (n : Nat) : (ordN L n).length = sN L n := by
  induction n with
  | zero => rfl
  | succ n ih => rw [ordN, List.length_append, ih, symsAt_len, sN]
theorem sN_mono (L : List Nat) (a b : Nat) (h : a ≤ b) : sN L a ≤ sN L b := by
  induction b with
  | zero => have : a = 0 := by omega
            subst this; exact Nat.le_refl _
  | succ b ih =>
    by_cases e : a = b + 1
    · subst e; exact Nat.le_refl _
    · have := ih (by omega); rw [sN]; omega
theorem ordN_at (L : List Nat) (m : Nat) : ∀ n j, n < m → j < cN L n → (ordN L m).getD (sN L n + j) 0 = (symsAt L n).getD j 0 := by
  induction m with
  | zero => intro n j h; omega
  | succ m ih =>
    intro n j hn hj
    have hl := ordN_len L m
    have ha := symsAt_len L n
    by_cases e : n = m
    · subst e
      rw [ordN, List.getD_eq_getElem?_getD, List.getElem?_append_right (by omega), hl, show sN L n + j - sN L n = j by omega, ← List.getD_eq_getElem?_getD]
    · have h2 := ih n j (by omega) hj
      have h3 := sN_mono L (n + 1) m (by omega)
      rw [sN] at h3
      rw [ordN, List.getD_eq_getElem?_getD, List.getElem?_append_left (by omega), ← List.getD_eq_getElem?_getD]
      exact h2
/-- codes of length n from the number v on -/
def codesFrom (v n : Nat) : List Nat → List (Nat × List UInt8)
  | [] => []
  | x :: l => (x, binT v n) :: codesFrom (v + 1) n l
theorem codesFrom_snoc (n : Nat) (l : List Nat) : ∀ v x, codesFrom v n (l ++ [x]) = codesFrom v n l ++ [(x, binT (v + l.length) n)] := by
  induction l with
  | nil => intro v x; rfl
  | cons y l ih =>
    intro v x
    simp only [List.cons_append, codesFrom, ih, List.length_cons]
    rw [show v + 1 + l.length = v + (l.length + 1) by omega]
/-- the codes shorter than n, written out -/
def csN (L : List Nat) : Nat → List (Nat × List UInt8)
  | 0 => []
  | n + 1 => csN L n ++ codesFrom (fN L n) n (symsAt L n)
theorem innerC_is (L : List Nat) (n : Nat) (h1 : 1 ≤ n) (j : Nat) : ∀ s st, s + j = L.length → st.long ≤ n → st.value * pw (n - st.long) = fN L n + (symsTo L n s).length → st.cs = csN L n ++ codesFrom (fN L n) n (symsTo L n s) → st.much = kN L n + (symsTo L n s).length * pw (15 - n) →
    (innerC L n j s st).long ≤ n ∧ (innerC L n j s st).value * pw (n - (innerC L n j s st).long) = fN L n + cN L n ∧ (innerC L n j s st).cs = csN L (n + 1) ∧ (innerC L n j s st).much = kN L (n + 1) := by
  induction j with
  | zero =>
    intro s st hs h2 h3 h4 h5
    have hs' : s = L.length := by omega
    subst hs'
    have hA : symsAt L n = symsTo L n L.length := by unfold symsAt; rw [if_neg (by omega)]
    have hl := symsAt_len L n
    rw [hA] at hl
    rw [hl] at h3 h5
    refine ⟨h2, h3, ?_, h5⟩
    show st.cs = _
    rw [h4, csN, hA]
  | succ j ih =>
    intro s st hs h2 h3 h4 h5
    rw [innerC]
    by_cases e : L.getD s 0 = n
    · have es : symsTo L n (s + 1) = symsTo L n s ++ [s] := by rw [symsTo_succ, if_pos e]
      refine ih (s + 1) _ (by omega) ?_ ?_ ?_ ?_
      · unfold stepC; rw [if_pos e]; exact Nat.le_refl _
      · unfold stepC; rw [if_pos e, es]
        simp only [Nat.sub_self, List.length_append, List.length_cons, List.length_nil]
        rw [h3]; simp [pw]; omega
      · unfold stepC; rw [if_pos e, es, codesFrom_snoc]
        simp only [h3, h4, List.append_assoc]
      · unfold stepC; rw [if_pos e, es]
        simp only [List.length_append, List.length_cons, List.length_nil]
        rw [h5, Nat.add_mul]; omega
    · have es : symsTo L n (s + 1) = symsTo L n s := by rw [symsTo_succ, if_neg e]
      have e2 : stepC L n s st = st := by unfold stepC; rw [if_neg e]
      rw [e2]
      exact ih (s + 1) _ (by omega) h2 (by rw [es]; exact h3) (by rw [es]; exact h4) (by rw [es]; exact h5)
theorem outerC_is (L : List Nat) (j : Nat) : ∀ n st, 1 ≤ n → st.long ≤ n → st.value * pw (n - st.long) = fN L n → st.cs = csN L n → st.much = kN L n → (outerC L j n st).cs = csN L (n + j) ∧ (outerC L j n st).much = kN L (n + j) := by
  induction j with
  | zero => intro n st _ _ _ h4 h5; exact ⟨h4, h5⟩
  | succ j ih =>
    intro n st h1 h2 h3 h4 h5
    obtain ⟨a, b, c, d⟩ := innerC_is L n h1 L.length 0 st (by omega) h2 (by simpa [symsTo] using h3) (by simpa [symsTo, codesFrom] using h4) (by simpa [symsTo] using h5)
    rw [outerC, show n + (j + 1) = n + 1 + j by omega]
    refine ih (n + 1) _ (by omega) (by omega) ?_ c d
    rw [fN, ← b, show n + 1 - (innerC L n L.length 0 st).long = (n - (innerC L n L.length 0 st).long) + 1 by omega, pw_succ]
    rw [Nat.mul_left_comm]
theorem codesT_is (L : List Nat) : (codesT L).cs = csN L 16 ∧ (codesT L).much = kN L 16 := by
  refine outerC_is L 15 1 ⟨[], 0, 0, 0⟩ (by omega) (by simp) ?_ ?_ ?_
  · simp [fN, cN]
  · rfl
  · simp [kN, cN]
theorem fN_kN (L : List Nat) : ∀ n, n ≤ 15 → fN L n * pw (15 - n) = kN L n := by
  intro n
  induction n with
  | zero => intro _; simp [fN, kN]
  | succ n ih =>
    intro h
    have e : pw (15 - n) = 2 * pw (15 - (n + 1)) := by rw [← pw_succ]; congr 1; omega
    rw [fN, kN, ← ih (by omega), ← Nat.add_mul, e, Nat.mul_comm 2 (fN L n + cN L n), Nat.mul_assoc]
theorem kN_mono (L : List Nat) (a b : Nat) (h : a ≤ b) : kN L a ≤ kN L b := by
  induction b with
  | zero => have : a = 0 := by omega
            subst this; exact Nat.le_refl _
  | succ b ih =>
    by_cases e : a = b + 1
    · subst e; exact Nat.le_refl _
    · have := ih (by omega); rw [kN]; omega
/-- where not too many rows are begun, the codes of a length are below 2 to its power -/
theorem fit_len (L : List Nat) (n : Nat) (hn : n ≤ 15) (hK : kN L 16 ≤ 32768) : fN L n + cN L n ≤ 2 ^ n := by
  have h1 := kN_mono L (n + 1) 16 (by omega)
  have h2 := fN_kN L n hn
  rw [kN, ← h2, ← Nat.add_mul] at h1
  have e : (2 : Nat) ^ n * pw (15 - n) = 32768 := by
    unfold pw; rw [← Nat.pow_add, show n + (15 - n) = 15 by omega]
  have h3 : (fN L n + cN L n) * pw (15 - n) ≤ 2 ^ n * pw (15 - n) := by rw [e]; omega
  exact Nat.le_of_mul_le_mul_right h3 (pw_pos _)
theorem binL_acc (j : Nat) : ∀ v acc, binL j v acc = binL j v [] ++ acc := by
  induction j with
  | zero => intro v acc; simp [binL]
  | succ j ih => intro v acc; rw [binL, ih, binL, ih _ [_], List.append_assoc]; rfl
theorem binT_succ (v n : Nat) : binT v (n + 1) = binT (v / 2) n ++ [sign (v % 2)] := by
  unfold binT
  rw [binL, binL_acc]
  rfl
theorem binT_more (v b n : Nat) (hb : b ≤ 1) : binT v n ++ [sign b] = binT (2 * v + b) (n + 1) := by
  rw [binT_succ, show (2 * v + b) / 2 = v by omega, show (2 * v + b) % 2 = b by omega]
theorem sign_inj (a b : Nat) (ha : a ≤ 1) (hb : b ≤ 1) (h : sign a = sign b) : a = b := by
  unfold sign at h
  by_cases h1 : a = 1 <;> by_cases h2 : b = 1 <;> simp [h1, h2] at h ⊢ <;> omega
theorem binT_inj (n : Nat) : ∀ v u, v < 2 ^ n → u < 2 ^ n → binT v n = binT u n → v = u := by
  induction n with
  | zero => intro v u hv hu _; simp at hv hu; omega
  | succ n ih =>
    intro v u hv hu h
    rw [binT_succ, binT_succ] at h
    have h2 := List.append_inj' h rfl
    rw [Nat.pow_succ] at hv hu
    have e1 := ih _ _ (by omega) (by omega) h2.1
    have e2 := sign_inj _ _ (by omega) (by omega) (List.cons.inj h2.2).1
    omega
theorem findC_append (a b : List (Nat × List UInt8)) (p : List UInt8) : findC (a ++ b) p = (findC a p).or (findC b p) := by
  unfold findC
  rw [List.find?_append]
  cases List.find? (fun c => c.2 == p) a <;> rfl
theorem findC_skip (cs : List (Nat × List UInt8)) (p : List UInt8) (h : ∀ c ∈ cs, c.2.length ≠ p.length) : findC cs p = none := by
  unfold findC
  rw [Option.map_eq_none_iff, List.find?_eq_none]
  intro c hc e
  have : c.2 = p := by simpa using e
  exact h c hc (by rw [this])
theorem codesFrom_len (n : Nat) (l : List Nat) : ∀ v, ∀ c ∈ codesFrom v n l, c.2.length = n := by
  induction l with
  | nil => intro v c hc; cases hc
  | cons x l ih =>
    intro v c hc
    rcases List.mem_cons.1 hc with rfl | hc
    · exact binT_length _ _
    · exact ih _ c hc
theorem findC_from (n : Nat) (l : List Nat) : ∀ v c, c < 2 ^ n → v + l.length ≤ 2 ^ n → v ≤ c → findC (codesFrom v n l) (binT c n) = if c - v < l.length then some (l.getD (c - v) 0) else none := by
  induction l with
  | nil => intro v c _ _ _; simp [codesFrom, findC]
  | cons x l ih =>
    intro v c hc hv hle
    simp only [List.length_cons] at hv ⊢
    by_cases e : c = v
    · subst e
      have : findC (codesFrom c n (x :: l)) (binT c n) = some x := by simp [codesFrom, findC]
      rw [this, if_pos (by omega)]
      simp
    · have hne : (binT v n == binT c n) = false := by
        rw [beq_eq_false_iff_ne]
        intro h; exact e (binT_inj n v c (by omega) hc h).symm
      have h2 : findC (codesFrom v n (x :: l)) (binT c n) = findC (codesFrom (v + 1) n l) (binT c n) := by
        simp only [codesFrom, findC, List.find?_cons, hne]
      rw [h2, ih (v + 1) c hc (by omega) (by omega)]
      obtain ⟨d, rfl⟩ : ∃ d, c = v + 1 + d := ⟨c - (v + 1), by omega⟩
      rw [show v + 1 + d - (v + 1) = d by omega, show v + 1 + d - v = d + 1 by omega]
      by_cases h3 : d < l.length
      · rw [if_pos h3, if_pos (by omega)]; simp
      · rw [if_neg h3, if_neg (by omega)]
theorem csN_len (L : List Nat) (m : Nat) : ∀ c ∈ csN L m, c.2.length < m := by
  induction m with
  | zero => intro c hc; cases hc
  | succ m ih =>
    intro c hc
    rcases List.mem_append.1 hc with hc | hc
    · have := ih c hc; omega
    · have := codesFrom_len m _ _ c hc; omega
theorem findC_csN (L : List Nat) (n : Nat) (p : List UInt8) (hp : p.length = n) (m : Nat) : n < m → findC (csN L m) p = findC (codesFrom (fN L n) n (symsAt L n)) p := by
  induction m with
  | zero => intro h; omega
  | succ m ih =>
    intro h
    rw [csN, findC_append]
    by_cases e : n = m
    · subst e
      rw [findC_skip (csN L n) p (fun c hc => by have := csN_len L n c hc; omega)]
      rfl
    · rw [ih (by omega), findC_skip (codesFrom (fN L m) m (symsAt L m)) p (fun c hc => by have := codesFrom_len m _ _ c hc; omega)]
      cases findC (codesFrom (fN L n) n (symsAt L n)) p <;> rfl
/-- which symbol a row of n bits is the code of: by counting -/
theorem findC_canon (L : List Nat) (n c : Nat) (hn : n ≤ 15) (hc : c < 2 ^ n) (hF : fN L n ≤ c) (hK : kN L 16 ≤ 32768) :
    findC (codesT L).cs (binT c n) = if c - fN L n < cN L n then some ((ordN L 16).getD (sN L n + (c - fN L n)) 0) else none := by
  have hf := fit_len L n hn hK
  have hl := symsAt_len L n
  rw [(codesT_is L).1, findC_csN L n _ (binT_length _ _) 16 (by omega), findC_from n _ _ _ hc (by omega) hF, hl]
  by_cases h : c - fN L n < cN L n
  · rw [if_pos h, if_pos h, ordN_at L 16 n _ (by omega) h]
  · rw [if_neg h, if_neg h]
/-- the longest code -/
def longest (L : List Nat) : Nat := L.foldl max 0
theorem foldl_max_ge (L : List Nat) : ∀ a, a ≤ L.foldl max a ∧ ∀ x ∈ L, x ≤ L.foldl max a := by
  induction L with
  | nil => intro a; exact ⟨Nat.le_refl _, fun x hx => by cases hx⟩
  | cons y L ih =>
    intro a
    obtain ⟨h1, h2⟩ := ih (max a y)
    refine ⟨Nat.le_trans (Nat.le_max_left a y) h1, fun x hx => ?_⟩
    rcases List.mem_cons.1 hx with rfl | hx
    · exact Nat.le_trans (Nat.le_max_right a x) h1
    · exact h2 x hx
theorem longest_snoc (L : List Nat) (x : Nat) : longest (L ++ [x]) = max (longest L) x := by
  unfold longest; rw [List.foldl_append]; rfl
theorem foldl_max_le (L : List Nat) (N : Nat) : ∀ a, a ≤ N → (∀ x ∈ L, x ≤ N) → L.foldl max a ≤ N := by
  induction L with
  | nil => intro a h _; exact h
  | cons y L ih =>
    intro a h hx
    exact ih _ (Nat.max_le.2 ⟨h, hx y (List.mem_cons_self ..)⟩) (fun x h => hx x (List.mem_cons_of_mem _ h))
theorem longest_le (L : List Nat) (N : Nat) (h : ∀ x ∈ L, x ≤ N) : longest L ≤ N := foldl_max_le L N 0 (Nat.zero_le _) h
theorem cN_long (L : List Nat) (n : Nat) (h : longest L < n) : cN L n = 0 := by
  unfold cN
  rw [if_neg (by omega), List.count_eq_zero]
  intro hm
  have := (foldl_max_ge L 0).2 n hm
  unfold longest at h
  omega
theorem cN_le (L : List Nat) (n : Nat) : cN L n ≤ L.length := by
  unfold cN; split
  · exact Nat.zero_le _
  · exact List.count_le_length
/-- nothing is found behind the longest code -/
theorem findC_long (L : List Nat) (p : List UInt8) (h : longest L < p.length) : findC (codesT L).cs p = none := by
  rw [(codesT_is L).1]
  by_cases hp : p.length < 16
  · rw [findC_csN L p.length p rfl 16 hp]
    have hz : (symsAt L p.length).length = 0 := by rw [symsAt_len, cN_long L _ h]
    rw [List.eq_nil_of_length_eq_zero hz]
    rfl
  · exact findC_skip _ _ (fun c hc => by have := csN_len L 16 c hc; omega)
theorem symL_none (s : ByteArray) (cs : List (Nat × List UInt8)) (k : Nat) : ∀ pre st, (∀ q : List UInt8, pre.length < q.length → findC cs q = none) → (symL s cs k pre st).2.bad = true := by
  induction k with
  | zero => intro pre st _; rfl
  | succ k ih =>
    intro pre st h
    rw [symL]
    split
    · rfl
    · split
      · rfl
      · rw [h _ (by simp)]
        exact ih _ _ (fun q hq => h q (by simp at hq; omega))
/-- rows begun, summed over the symbols -/
def muchL (L : List Nat) : Nat := (L.map fun x => if 0 < x then pw (15 - x) else 0).sum
theorem muchL_snoc (L : List Nat) (x : Nat) : muchL (L ++ [x]) = muchL L + if 0 < x then pw (15 - x) else 0 := by
  unfold muchL; rw [List.map_append, List.sum_append]; simp
theorem cN_cons (L : List Nat) (x n : Nat) : cN (x :: L) n = cN L n + if x = n ∧ n ≠ 0 then 1 else 0 := by
  unfold cN
  by_cases h : n = 0
  · simp [h]
  · rw [if_neg h, if_neg h, List.count_cons]
    by_cases e : x = n
    · simp [e, h]
    · simp [e]
theorem kN_cons (L : List Nat) (x : Nat) : ∀ m, kN (x :: L) m = kN L m + if 0 < x ∧ x < m then pw (15 - x) else 0 := by
  intro m
  induction m with
  | zero => simp [kN]
  | succ m ih =>
    rw [kN, ih, kN, cN_cons, Nat.add_mul]
    by_cases h : x = m
    · subst h
      by_cases h0 : x = 0
      · rw [if_neg (by omega), if_neg (by omega), if_neg (by omega)]
        generalize pw (15 - x) = P
        rw [Nat.zero_mul]; omega
      · rw [if_neg (by omega), if_pos ⟨rfl, h0⟩, if_pos (by omega)]
        generalize pw (15 - x) = P
        omega
    · rw [if_neg (show ¬ (x = m ∧ m ≠ 0) from fun e => h e.1)]
      by_cases h2 : 0 < x ∧ x < m
      · rw [if_pos h2, if_pos (by omega)]; omega
      · rw [if_neg h2, if_neg (by omega)]; omega
theorem kN_nil (m : Nat) : kN [] m = 0 := by
  induction m with
  | zero => rfl
  | succ m ih => rw [kN, ih]; simp [cN]
theorem kN_much (L : List Nat) (h : ∀ x ∈ L, x ≤ 15) : kN L 16 = muchL L := by
  induction L with
  | nil => rw [kN_nil]; rfl
  | cons x L ih =>
    rw [kN_cons, ih (fun y hy => h y (List.mem_cons_of_mem _ hy))]
    have hx := h x (List.mem_cons_self ..)
    unfold muchL
    rw [List.map_cons, List.sum_cons]
    by_cases h0 : 0 < x
    · rw [if_pos (by omega), if_pos h0]; omega
    · rw [if_neg (by omega), if_neg h0]; omega
theorem codesT_muchL (L : List Nat) (h : ∀ x ∈ L, x ≤ 15) : (codesT L).much = muchL L := (codesT_is L).2.trans (kN_much L h)
end Go.Proofs.YtjfifmadldcjjaaGreatDoor.Rf
