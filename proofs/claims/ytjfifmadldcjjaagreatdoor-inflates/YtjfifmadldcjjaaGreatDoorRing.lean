/- The ring of the last bytes: what it holds; the walks of New, Add and Back. -/
import Derived.Test.YtjfifmadldcjjaaGreatDoorBld
namespace Go.Proofs.YtjfifmadldcjjaaGreatDoor.Pr
open Go.RowKit Rf
open RfW (byteCells byteCells_snoc)
/-- which byte lies at place j of a ring -/
def idxR (n win j : Nat) : Nat := n - 1 - (n - 1 - j) % win
def ringCells (out : List UInt8) (win : Nat) : List Value := (List.range (min out.length win)).map fun j => .int .u8 (((out.getD (idxR out.length win j) 0).toNat : Nat) : Int)
theorem ringCells_len (out : List UInt8) (win : Nat) : (ringCells out win).length = min out.length win := by simp [ringCells]
theorem ringCells_few (out : List UInt8) (win : Nat) (h : out.length ≤ win) : ringCells out win = byteCells out := by
  apply List.ext_getElem?
  intro j
  unfold ringCells byteCells
  by_cases hj : j < out.length
  · have e : idxR out.length win j = j := by unfold idxR; rw [Nat.mod_eq_of_lt (by omega)]; omega
    rw [List.getElem?_map, List.getElem?_range (by omega), List.getElem?_map, List.getElem?_eq_getElem hj]
    simp [e, List.getD, List.getElem?_eq_getElem hj]
  · rw [List.getElem?_eq_none (by simp; omega), List.getElem?_eq_none (by simp; omega)]
theorem idxR_new (n win j : Nat) (hw : 1 ≤ win) (hj : j < win) (hn : win ≤ n) : idxR (n + 1) win j = if j = n % win then n else idxR n win j := by
  unfold idxR
  rw [show n + 1 - 1 - j = n - j by omega, show n + 1 - 1 = n by omega]
  by_cases e : j = n % win
  · rw [if_pos e]
    have h1 : (n - j) % win = 0 := by
      have h2 := Nat.div_add_mod n win
      have h3 : n - j = win * (n / win) := by omega
      rw [h3]; exact Nat.mul_mod_right _ _
    omega
  · rw [if_neg e]
    have h1 : (n - j) % win ≠ 0 := by
      intro h
      apply e
      have h2 := Nat.div_add_mod (n - j) win
      rw [h] at h2
      have h3 : n = j + win * ((n - j) / win) := by omega
      rw [h3, Nat.add_mul_mod_self_left, Nat.mod_eq_of_lt hj]
    have h4 : (n - j - 1) % win = (n - j) % win - 1 := by
      have h5 : n - j = (n - j - 1) + 1 := by omega
      have h6 : (n - j) % win = ((n - j - 1) % win + 1) % win := by rw [h5]; simp [Nat.add_mod]
      have h7 := Nat.mod_lt (n - j - 1) (show 0 < win by omega)
      by_cases h8 : (n - j - 1) % win + 1 = win
      · rw [h8, Nat.mod_self] at h6; omega
      · rw [Nat.mod_eq_of_lt (show (n - j - 1) % win + 1 < win by omega)] at h6; omega
    rw [show n - 1 - j = n - j - 1 by omega, h4]
    have h9 := Nat.mod_lt (n - j) (show 0 < win by omega)
    omega
theorem ringCells_full (out : List UInt8) (x : UInt8) (win : Nat) (hw : 1 ≤ win) (h : win ≤ out.length) : ringCells (out ++ [x]) win = (ringCells out win).set (out.length % win) (.int .u8 ((x.toNat : Nat) : Int)) := by
  apply List.ext_getElem?
  intro j
  have hm := Nat.mod_lt out.length (show 0 < win by omega)
  unfold ringCells
  by_cases hj : j < win
  · rw [List.getElem?_map, List.getElem?_range (by simp; omega), List.getElem?_set]
    have e := idxR_new out.length win j hw hj h
    rw [List.length_append, List.length_singleton]
    simp only [Option.map_some, e]
    by_cases ej : j = out.length % win
    · rw [if_pos ej, if_pos ej.symm, if_pos (by simp; omega)]
      simp
    · rw [if_neg ej, if_neg (fun h => ej h.symm), List.getElem?_map, List.getElem?_range (by omega)]
      have hi : idxR out.length win j < out.length := by unfold idxR; omega
      simp [List.getD, List.getElem?_append_left hi]
  · rw [List.getElem?_eq_none (by simp; omega), List.getElem?_eq_none (by simp; omega)]
/-- the byte so far back -/
def atR (n win d : Nat) : Nat := if d ≤ n % win then n % win - d else n % win + min n win - d
theorem ring_back (out : List UInt8) (win d : Nat) (hw : 1 ≤ win) (h1 : 1 ≤ d) (h2 : d ≤ min out.length win) : (ringCells out win)[atR out.length win d]? = some (.int .u8 (((out.getD (out.length - d) 0).toNat : Nat) : Int)) ∧ atR out.length win d < min out.length win := by
  have hm := Nat.mod_lt out.length (show 0 < win by omega)
  have hd := Nat.div_add_mod out.length win
  generalize hN : out.length = n at *
  have key : atR n win d < min n win ∧ idxR n win (atR n win d) = n - d := by
    by_cases hf : n < win
    · have e : n % win = n := Nat.mod_eq_of_lt hf
      unfold atR idxR
      rw [e, if_pos (by omega)]
      refine ⟨by omega, ?_⟩
      rw [show n - 1 - (n - d) = d - 1 by omega, Nat.mod_eq_of_lt (by omega)]; omega
    · have hlt : atR n win d < win := by unfold atR; split <;> omega
      refine ⟨by omega, ?_⟩
      unfold idxR
      have e : (n - 1 - atR n win d) % win = d - 1 := by
        unfold atR
        generalize n / win = q at *
        split
        · rename_i hle
          rw [show n - 1 - (n % win - d) = d - 1 + win * q by omega, Nat.add_mul_mod_self_left, Nat.mod_eq_of_lt (by omega)]
        · rename_i hle
          have hq : 1 ≤ q := by
            rcases Nat.eq_zero_or_pos q with h0 | h0
            · subst h0; omega
            · exact h0
          have hq2 : win * q = win + win * (q - 1) := by
            have e1 : q = (q - 1) + 1 := by omega
            have e2 : win * ((q - 1) + 1) = win * (q - 1) + win := Nat.mul_succ win (q - 1)
            rw [← e1] at e2; omega
          rw [show n - 1 - (n % win + min n win - d) = d - 1 + win * (q - 1) by omega, Nat.add_mul_mod_self_left, Nat.mod_eq_of_lt (by omega)]
      rw [e]; omega
  refine ⟨?_, key.1⟩
  unfold ringCells
  rw [List.getElem?_map, List.getElem?_range (by rw [hN]; exact key.1)]
  simp only [Option.map_some, hN, key.2]
/-- a ring in block gb: its row is v, it is of size win, these bytes were added -/
def RingAt (w : World) (gb base : Nat) (v : Value) (win : Nat) (out : List UInt8) : Prop := w.heap[gb]? = some (.cells #[.int .i64 (win : Int), v, .int .i64 ((out.length % win : Nat) : Int)] 116 (0, 0)) ∧ w.ownsRow base 5 1 v (min out.length win) (ringCells out win) ∧ base ≤ w.heap.size
set_option maxRecDepth 10000 in
set_option maxHeartbeats 2000000 in
theorem ringNew_any (win : Nat) (w : World) :
    Calls Tryz.prog 33 #[.int .i64 (win : Int)] w fun e w' => e = .returned (.pointer (some ⟨w.heap.size, 0, none⟩)) ∧ w' = w.alloc (.cells #[.int .i64 (win : Int), .slice none 0 0, .int .i64 0] 116) := by
  go_enter Tryz.func33, Tryz.ntmps33
  go_wp2
  go_ret
  exact ⟨rfl, rfl⟩
set_option maxRecDepth 10000 in
set_option maxHeartbeats 2000000 in
theorem back_none (gb base : Nat) (v : Value) (win d : Nat) (out : List UInt8) (w : World) (h : RingAt w gb base v win out) (hw : 1 ≤ win) (hw2 : win ≤ 32768) (h1 : 1 ≤ d) (hd : d ≤ 1000000) (h2 : ¬ d ≤ min out.length win) :
    Calls Tryz.prog 92 #[.pointer (some ⟨gb, 0, none⟩), .int .i64 (d : Int)] w fun e w' => e = .returned (.tuple #[.int .u8 0, .bool false]) ∧ w' = w := by
  obtain ⟨hb, hown, hbase⟩ := h
  have c1 : w.cell? ⟨gb, 1, none⟩ = some v := by simpa using (cell_of hb 1).1
  have d1 : decide ((d : Int) < 1) = false := decide_eq_false (by omega)
  have hml : min out.length win ≤ 32768 := by omega
  generalize min out.length win = mm at *
  rcases hown.2 with ⟨rfl, hv⟩ | ⟨g, cap, cur, rfl, hv⟩
  · have d2 : decide ((0 : Int) < (d : Int)) = true := decide_eq_true (by omega)
    go_enter Tryz.func92, Tryz.ntmps92
    go_wp2
    go_ret2
    exact ⟨rfl, rfl⟩
  · have d2 : decide ((mm : Int) < (d : Int)) = true := decide_eq_true (by omega)
    go_enter Tryz.func92, Tryz.ntmps92
    go_wp2
    go_ret2
    exact ⟨rfl, rfl⟩
set_option maxRecDepth 10000 in
set_option maxHeartbeats 2000000 in
theorem back_some (gb base : Nat) (v : Value) (win d : Nat) (out : List UInt8) (w : World) (h : RingAt w gb base v win out) (hw : 1 ≤ win) (hw2 : win ≤ 32768) (h1 : 1 ≤ d) (h2 : d ≤ min out.length win) :
    Calls Tryz.prog 92 #[.pointer (some ⟨gb, 0, none⟩), .int .i64 (d : Int)] w fun e w' => e = .returned (.tuple #[.int .u8 (((out.getD (out.length - d) 0).toNat : Nat) : Int), .bool true]) ∧ w' = w := by
  obtain ⟨hb, hown, hbase⟩ := h
  have c1 : w.cell? ⟨gb, 1, none⟩ = some v := by simpa using (cell_of hb 1).1
  have c2 : w.cell? ⟨gb, 2, none⟩ = some (.int .i64 ((out.length % win : Nat) : Int)) := by simpa using (cell_of hb 2).1
  have d1 : decide ((d : Int) < 1) = false := decide_eq_false (by omega)
  have hml : min out.length win ≤ 32768 := by omega
  obtain ⟨hr1, hr2⟩ := ring_back out win d hw h1 h2
  have hml2 : out.length % win ≤ 32768 := by have := Nat.mod_lt out.length (show 0 < win by omega); omega
  obtain ⟨g, cap, rfl⟩ : ∃ g cap, v = .slice (some ⟨g, 0, none⟩) (min out.length win) cap := by
    rcases hown.2 with ⟨_, hv⟩ | ⟨g, cap, cur, rfl, hv⟩
    · omega
    · exact ⟨g, cap, rfl⟩
  have hcell : w.cell? ⟨g, atR out.length win d, none⟩ = _ := (hown.cellAt _ (by omega)).trans hr1
  have HA : Hid (atR out.length win d = if d ≤ out.length % win then out.length % win - d else out.length % win + min out.length win - d) := rfl
  generalize atR out.length win d = p at *
  generalize min out.length win = mm at *
  generalize out.length % win = nx at *
  generalize ((out.getD (out.length - d) 0).toNat : Nat) = by0 at *
  have d2 : decide ((mm : Int) < (d : Int)) = false := decide_eq_false (by omega)
  by_cases hle : d ≤ nx
  · have hp : (nx : Int) - (d : Int) = (p : Int) := by have := HA.out; rw [if_pos hle] at this; omega
    go_enter Tryz.func92, Tryz.ntmps92
    go_wp2
    go_ret2
    exact ⟨rfl, rfl⟩
  · have hp : (nx : Int) - (d : Int) + (mm : Int) = (p : Int) := by have := HA.out; rw [if_neg hle] at this; omega
    have hn0 : (nx : Int) - (d : Int) < 0 := by omega
    go_enter Tryz.func92, Tryz.ntmps92
    go_wp2
    go_ret2
    exact ⟨rfl, rfl⟩
end Go.Proofs.YtjfifmadldcjjaaGreatDoor.Pr
