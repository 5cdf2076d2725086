/- What lies in memory while a table is made; the places of its values. -/
import Derived.Test.YtjfifmadldcjjaaGreatDoorMean
namespace Go.Proofs.YtjfifmadldcjjaaGreatDoor.Pr
open Go.RowKit Rf
def upd (f : Nat → Nat) (n x : Nat) : Nat → Nat := fun m => if m = n then x else f m
/-- a table in block k: the longest code, the counts, the row of values -/
def Tbl (w : World) (k : Nat) (T : TypeId) (lg : Nat) (f : Nat → Nat) (v : Value) : Prop := ∃ cur, w.heap[k]? = some (.cells cur T (0, 0)) ∧ cur.size = 18 ∧ cur[0]? = some (.int .i64 (lg : Int)) ∧ (∀ n, n ≤ 15 → cur[1 + n]? = some (.int .i64 ((f n : Nat) : Int))) ∧ cur[17]? = some v
theorem Tbl.lt {w : World} {k : Nat} {T : TypeId} {lg : Nat} {f : Nat → Nat} {v : Value} (h : Tbl w k T lg f v) : k < w.heap.size := by
  obtain ⟨cur, h1, _⟩ := h; exact lt_of_some h1
theorem Tbl.c0 {w : World} {k : Nat} {T : TypeId} {lg : Nat} {f : Nat → Nat} {v : Value} (h : Tbl w k T lg f v) : w.cell? ⟨k, 0, none⟩ = some (.int .i64 (lg : Int)) := by
  obtain ⟨cur, h1, h2, h3, h4, h5⟩ := h; rw [(cell_of h1 0).1, h3]
theorem Tbl.cn {w : World} {k : Nat} {T : TypeId} {lg : Nat} {f : Nat → Nat} {v : Value} (h : Tbl w k T lg f v) (n : Nat) (hn : n ≤ 15) : w.cell? ⟨k, 1 + n, none⟩ = some (.int .i64 ((f n : Nat) : Int)) := by
  obtain ⟨cur, h1, h2, h3, h4, h5⟩ := h; rw [(cell_of h1 _).1, h4 n hn]
theorem Tbl.c17 {w : World} {k : Nat} {T : TypeId} {lg : Nat} {f : Nat → Nat} {v : Value} (h : Tbl w k T lg f v) : w.cell? ⟨k, 17, none⟩ = some v := by
  obtain ⟨cur, h1, h2, h3, h4, h5⟩ := h; rw [(cell_of h1 _).1, h5]
theorem Tbl.fr {w : World} {k : Nat} {T : TypeId} {lg : Nat} {f : Nat → Nat} {v : Value} (h : Tbl w k T lg f v) (o : Nat) : w.frozen? ⟨k, o, none⟩ = false := by
  obtain ⟨cur, h1, _⟩ := h; exact (cell_of h1 o).2
theorem Tbl.over {w w' : World} {k : Nat} {T : TypeId} {lg : Nat} {f : Nat → Nat} {v : Value} (h : Tbl w k T lg f v) (e : w'.heap[k]? = w.heap[k]?) : Tbl w' k T lg f v := by
  obtain ⟨cur, h1, h2⟩ := h; exact ⟨cur, e.trans h1, h2⟩
theorem Tbl.setN {w : World} {k : Nat} {T : TypeId} {lg : Nat} {f : Nat → Nat} {v : Value} (h : Tbl w k T lg f v) (n x : Nat) (hn : n ≤ 15) (X : Int) (hX : X = (x : Int)) : Tbl (w.setCell ⟨k, 1 + n, none⟩ (.int .i64 X)) k T lg (upd f n x) v := by
  obtain ⟨cur, h1, h2, h3, h4, h5⟩ := h
  subst hX
  refine ⟨_, set_of h1 _ _, by simpa using h2, ?_, ?_, ?_⟩
  · rw [Array.getElem?_setIfInBounds_ne (by omega)]; exact h3
  · intro m hm
    by_cases e : m = n
    · subst e; rw [Array.getElem?_setIfInBounds_self_of_lt (by omega)]; simp [upd]
    · rw [Array.getElem?_setIfInBounds_ne (by omega), h4 m hm]; simp [upd, e]
  · rw [Array.getElem?_setIfInBounds_ne (by omega)]; exact h5
theorem Tbl.setL {w : World} {k : Nat} {T : TypeId} {lg : Nat} {f : Nat → Nat} {v : Value} (h : Tbl w k T lg f v) (x : Nat) (X : Int) (hX : X = (x : Int)) : Tbl (w.setCell ⟨k, 0, none⟩ (.int .i64 X)) k T x f v := by
  obtain ⟨cur, h1, h2, h3, h4, h5⟩ := h
  subst hX
  refine ⟨_, set_of h1 _ _, by simpa using h2, ?_, ?_, ?_⟩
  · rw [Array.getElem?_setIfInBounds_self_of_lt (by omega)]
  · intro m hm; rw [Array.getElem?_setIfInBounds_ne (by omega), h4 m hm]
  · rw [Array.getElem?_setIfInBounds_ne (by omega)]; exact h5
theorem Tbl.setV {w : World} {k : Nat} {T : TypeId} {lg : Nat} {f : Nat → Nat} {v : Value} (h : Tbl w k T lg f v) (x : Value) : Tbl (w.setCell ⟨k, 17, none⟩ x) k T lg f x := by
  obtain ⟨cur, h1, h2, h3, h4, h5⟩ := h
  refine ⟨_, set_of h1 _ _, by simpa using h2, ?_, ?_, ?_⟩
  · rw [Array.getElem?_setIfInBounds_ne (by omega)]; exact h3
  · intro m hm; rw [Array.getElem?_setIfInBounds_ne (by omega), h4 m hm]
  · rw [Array.getElem?_setIfInBounds_self_of_lt (by omega)]
theorem Tbl.hd {w : World} {k vb : Nat} {T : TypeId} {L : List Nat} (h : Tbl w k T (longest L) (cN L) (.slice (some ⟨vb, 0, none⟩) (sN L 16) (sN L 16))) : TabHd w k vb T L := by
  obtain ⟨cur, h1, h2, h3, h4, h5⟩ := h; exact ⟨cur, h1, h3, h4, h5⟩
/-- an array of sixteen numbers in block k -/
def Arr (w : World) (k : Nat) (T : TypeId) (f : Nat → Nat) : Prop := ∃ cur, w.heap[k]? = some (.cells cur T (0, 0)) ∧ cur.size = 16 ∧ ∀ n, n ≤ 15 → cur[n]? = some (.int .i64 ((f n : Nat) : Int))
theorem Arr.lt {w : World} {k : Nat} {T : TypeId} {f : Nat → Nat} (h : Arr w k T f) : k < w.heap.size := by
  obtain ⟨cur, h1, _⟩ := h; exact lt_of_some h1
theorem Arr.cn {w : World} {k : Nat} {T : TypeId} {f : Nat → Nat} (h : Arr w k T f) (n : Nat) (hn : n ≤ 15) : w.cell? ⟨k, n, none⟩ = some (.int .i64 ((f n : Nat) : Int)) := by
  obtain ⟨cur, h1, h2, h3⟩ := h; rw [(cell_of h1 _).1, h3 n hn]
theorem Arr.fr {w : World} {k : Nat} {T : TypeId} {f : Nat → Nat} (h : Arr w k T f) (o : Nat) : w.frozen? ⟨k, o, none⟩ = false := by
  obtain ⟨cur, h1, _⟩ := h; exact (cell_of h1 o).2
theorem Arr.over {w w' : World} {k : Nat} {T : TypeId} {f : Nat → Nat} (h : Arr w k T f) (e : w'.heap[k]? = w.heap[k]?) : Arr w' k T f := by
  obtain ⟨cur, h1, h2⟩ := h; exact ⟨cur, e.trans h1, h2⟩
theorem Arr.set {w : World} {k : Nat} {T : TypeId} {f : Nat → Nat} (h : Arr w k T f) (n x : Nat) (hn : n ≤ 15) (X : Int) (hX : X = (x : Int)) : Arr (w.setCell ⟨k, n, none⟩ (.int .i64 X)) k T (upd f n x) := by
  obtain ⟨cur, h1, h2, h3⟩ := h
  subst hX
  refine ⟨_, set_of h1 _ _, by simpa using h2, ?_⟩
  intro m hm
  by_cases e : m = n
  · subst e; rw [Array.getElem?_setIfInBounds_self_of_lt (by omega)]; simp [upd]
  · rw [Array.getElem?_setIfInBounds_ne (by omega), h3 m hm]; simp [upd, e]
theorem Arr.congr {w : World} {k : Nat} {T : TypeId} {f g : Nat → Nat} (h : Arr w k T f) (e : ∀ n, n ≤ 15 → f n = g n) : Arr w k T g := by
  obtain ⟨cur, h1, h2, h3⟩ := h
  exact ⟨cur, h1, h2, fun n hn => by rw [h3 n hn, e n hn]⟩
theorem Tbl.congr {w : World} {k : Nat} {T : TypeId} {lg : Nat} {f g : Nat → Nat} {v : Value} (h : Tbl w k T lg f v) (e : ∀ n, n ≤ 15 → f n = g n) : Tbl w k T lg g v := by
  obtain ⟨cur, h1, h2, h3, h4, h5⟩ := h
  exact ⟨cur, h1, h2, h3, fun n hn => by rw [h4 n hn, e n hn], h5⟩
theorem cN_snoc (L : List Nat) (x n : Nat) : cN (L ++ [x]) n = cN L n + if x = n ∧ n ≠ 0 then 1 else 0 := by
  unfold cN
  by_cases h : n = 0
  · simp [h]
  · rw [if_neg h, if_neg h, List.count_append, List.count_singleton]
    by_cases e : x = n
    · simp [e, h]
    · simp [e]
theorem cN_zero (L : List Nat) : cN L 0 = 0 := by simp [cN]
/-- one length more that is counted -/
theorem cN_upd (L : List Nat) (x : Nat) (hx : 0 < x) (n : Nat) : upd (cN L) x (cN L x + 1) n = cN (L ++ [x]) n := by
  rw [cN_snoc]
  unfold upd
  by_cases e : n = x
  · subst e; rw [if_pos rfl, if_pos ⟨rfl, by omega⟩]
  · rw [if_neg e, if_neg (fun h => e h.1.symm), Nat.add_zero]
theorem cN_none (L : List Nat) (x : Nat) (hx : ¬ 0 < x) (n : Nat) : cN L n = cN (L ++ [x]) n := by
  rw [cN_snoc, if_neg (by omega), Nat.add_zero]
theorem longest_none (L : List Nat) (x : Nat) (hx : ¬ 0 < x) : longest (L ++ [x]) = longest L := by
  rw [longest_snoc]; omega
/-- how many of the first i symbols have length n -/
def rk (L : List Nat) (n i : Nat) : Nat := (symsTo L n i).length
theorem symsTo_pre (L : List Nat) (n : Nat) : ∀ i j, i ≤ j → ∃ t, symsTo L n j = symsTo L n i ++ t := by
  intro i j h
  induction j with
  | zero => exact ⟨[], by rw [show i = 0 by omega]; simp⟩
  | succ j ih =>
    by_cases e : i = j + 1
    · subst e; exact ⟨[], by simp⟩
    · obtain ⟨t, ht⟩ := ih (by omega)
      rw [symsTo_succ]
      split
      · exact ⟨t ++ [j], by rw [ht, List.append_assoc]⟩
      · exact ⟨t, ht⟩
theorem rk_le (L : List Nat) (n i : Nat) (hi : i ≤ L.length) (hn : n ≠ 0) : rk L n i ≤ cN L n := by
  obtain ⟨t, ht⟩ := symsTo_pre L n i L.length hi
  have h := symsAt_len L n
  unfold symsAt at h
  rw [if_neg hn, ht, List.length_append] at h
  unfold rk; omega
theorem rk_lt (L : List Nat) (i : Nat) (hi : i < L.length) (hn : L.getD i 0 ≠ 0) : rk L (L.getD i 0) i < cN L (L.getD i 0) := by
  have h := rk_le L (L.getD i 0) (i + 1) (by omega) hn
  unfold rk at *
  rw [symsTo_succ, if_pos rfl, List.length_append, List.length_singleton] at h
  omega
theorem rk_succ (L : List Nat) (n i : Nat) : rk L n (i + 1) = rk L n i + if L.getD i 0 = n then 1 else 0 := by
  unfold rk; rw [symsTo_succ]; split <;> simp
/-- two places are one only if lengths and ranks are -/
theorem place_ne (L : List Nat) (n r m q : Nat) (hr : r < cN L n) (hq : q < cN L m) (h : ¬ (n = m ∧ r = q)) : sN L n + r ≠ sN L m + q := by
  rcases Nat.lt_trichotomy n m with h1 | h1 | h1
  · have := sN_mono L (n + 1) m (by omega); rw [sN] at this; omega
  · subst h1; intro e; exact h ⟨rfl, by omega⟩
  · have := sN_mono L (m + 1) n (by omega); rw [sN] at this; omega
theorem place_lt (L : List Nat) (n r : Nat) (hn : n ≤ 15) (hr : r < cN L n) : sN L n + r < sN L 16 := by
  have := sN_mono L (n + 1) 16 (by omega); rw [sN] at this; omega
/-- every place is the one of a length and a rank -/
theorem place_of (L : List Nat) (m : Nat) : ∀ j, j < sN L m → ∃ n r, n < m ∧ r < cN L n ∧ j = sN L n + r := by
  induction m with
  | zero => intro j h; simp [sN] at h
  | succ m ih =>
    intro j h
    rw [sN] at h
    by_cases h1 : j < sN L m
    · obtain ⟨n, r, a, b, c⟩ := ih j h1
      exact ⟨n, r, by omega, b, c⟩
    · exact ⟨m, j - sN L m, by omega, by omega, by omega⟩
/-- what the row of values holds behind i symbols: at each place the symbol that belongs there -/
def Placed (L : List Nat) (i : Nat) (g : Nat → Option Nat) : Prop := ∀ n r, 1 ≤ n → n ≤ 15 → r < rk L n i → g (sN L n + r) = some ((symsTo L n i).getD r 0)
theorem Placed.begin (L : List Nat) (g : Nat → Option Nat) : Placed L 0 g := by
  intro n r _ _ h; simp [rk, symsTo] at h
theorem Placed.none {L : List Nat} {i : Nat} {g : Nat → Option Nat} (h : Placed L i g) (hx : L.getD i 0 = 0) : Placed L (i + 1) g := by
  intro n r h1 h2 h3
  have e : symsTo L n (i + 1) = symsTo L n i := by rw [symsTo_succ, if_neg (by omega)]
  rw [e]
  refine h n r h1 h2 ?_
  unfold rk at h3 ⊢; rwa [e] at h3
theorem Placed.more {L : List Nat} {i : Nat} {g : Nat → Option Nat} (h : Placed L i g) (hi : i < L.length) (hx : L.getD i 0 ≠ 0) : Placed L (i + 1) (fun j => if j = sN L (L.getD i 0) + rk L (L.getD i 0) i then some i else g j) := by
  intro n r h1 h2 h3
  dsimp only
  have hc := rk_le L n (i + 1) (by omega) (by omega)
  by_cases e : L.getD i 0 = n
  · rw [symsTo_succ, if_pos e]
    by_cases e2 : r = rk L n i
    · rw [e, if_pos (by rw [e2])]
      rw [e2, List.getD_eq_getElem?_getD]
      unfold rk
      simp
    · rw [rk_succ, if_pos e] at h3
      rw [e, if_neg (by omega)]
      have h4 := h n r h1 h2 (by omega)
      rw [h4, List.getD_eq_getElem?_getD, List.getD_eq_getElem?_getD, List.getElem?_append_left (by unfold rk at h3 e2; omega)]
  · rw [symsTo_succ, if_neg e]
    rw [rk_succ, if_neg e] at h3
    rw [if_neg (place_ne L n r _ _ (by rw [rk_succ, if_neg e] at hc; omega) (rk_lt L i hi hx) (fun h => e h.1.symm))]
    exact h n r h1 h2 (by omega)
theorem Placed.all {L : List Nat} {g : Nat → Option Nat} (h : Placed L L.length g) (j : Nat) (hj : j < sN L 16) : g j = some ((ordN L 16).getD j 0) := by
  obtain ⟨n, r, h1, h2, rfl⟩ := place_of L 16 j hj
  have hn : n ≠ 0 := by
    rintro rfl; rw [cN_zero] at h2; omega
  have hl := symsAt_len L n
  have e : symsAt L n = symsTo L n L.length := by unfold symsAt; rw [if_neg hn]
  rw [ordN_at L 16 n r h1 h2, e]
  exact h n r (by omega) (by omega) (by unfold rk; rw [← e]; omega)
end Go.Proofs.YtjfifmadldcjjaaGreatDoor.Pr
