/- The walks of newTables and fixedTables. -/
import Derived.Test.YtjfifmadldcjjaaGreatDoorNewD
namespace Go.Proofs.YtjfifmadldcjjaaGreatDoor.Pr
open Go.RowKit Rf
theorem TabM.keep {w w' : World} {k : Nat} {mean : Nat → Nat × Nat × Nat} {L : List Nat} (h : TabM w k mean L) (e : ∀ b, b < w.heap.size → w'.heap[b]? = w.heap[b]?) : TabM w' k mean L := by
  obtain ⟨vb, vcur, ⟨cur, a, b⟩, c, d⟩ := h
  exact ⟨vb, vcur, ⟨cur, (e k (lt_of_some a)).trans a, b⟩, (e vb (lt_of_some c)).trans c, d⟩
/-- the tables of a block, in block k: by them the lengths A of literals, B of distances -/
def TabsIs (w : World) (k : Nat) (A B : List Nat) : Prop := ∃ ka kb, w.heap[k]? = some (.cells #[.pointer (some ⟨ka, 0, none⟩), .pointer (some ⟨kb, 0, none⟩)] 153 (0, 0)) ∧ TabM w ka litM A ∧ TabM w kb distM B
theorem TabsIs.keep {w w' : World} {k : Nat} {A B : List Nat} (h : TabsIs w k A B) (e : ∀ b, b < w.heap.size → w'.heap[b]? = w.heap[b]?) : TabsIs w' k A B := by
  obtain ⟨ka, kb, h1, h2, h3⟩ := h
  exact ⟨ka, kb, (e k (lt_of_some h1)).trans h1, h2.keep e, h3.keep e⟩
set_option maxRecDepth 10000 in
set_option maxHeartbeats 4000000 in
theorem newTables_any (b o cap b2 o2 cap2 : Nat) (A B : List Nat) (w : World) (hA : BytesAt w b o A) (hb : b < w.heap.size) (hla : A.length ≤ 400) (hxa : ∀ x ∈ A, x ≤ 15) (hB : BytesAt w b2 o2 B) (hb2 : b2 < w.heap.size) (hlb : B.length ≤ 400) (hxb : ∀ x ∈ B, x ≤ 15) :
    Calls Tryz.prog 74 #[.slice (some ⟨b, o, none⟩) A.length cap, .slice (some ⟨b2, o2, none⟩) B.length cap2] w fun e w' => (∃ k, e = .returned (.pointer (some ⟨k, 0, none⟩)) ∧ TabsIs w' k A B ∧ w.heap.size ≤ k) ∧ Below w.heap.size w w' := by
  go_enter Tryz.func74, Tryz.ntmps74
  go_wp2_with fail
  refine (newL_any b o cap A _ hA hb hla hxa).mono ?_
  rintro e w1 ⟨⟨k1, rfl, hT1, hk1⟩, hB1⟩
  have hz1 := hB1.size
  go_wp2_with fail
  refine (newD_any b2 o2 cap2 B _ (hB.over (hB1.block b2 hb2)) (by omega) hlb hxb).mono ?_
  rintro e w2 ⟨⟨k2, rfl, hT2, hk2⟩, hB2⟩
  have hz2 := hB2.size
  have hT1' := hT1.keep (fun b hb => hB2.block b hb)
  go_wp2_with fail
  go_ret
  refine ⟨⟨_, rfl, ⟨k1, k2, alloc_new _ _ _ rfl, hT1'.keep (fun b hb => alloc_old hb), hT2.keep (fun b hb => alloc_old hb)⟩, by omega⟩, ?_⟩
  exact (hB1.trans (hB2.mono (by omega))).alloc (by omega) _
/-- a row of N bytes in block b -/
def RowB (w : World) (b N : Nat) (f : Nat → Nat) : Prop := ∃ cur, w.heap[b]? = some (.cells cur 5 (0, 0)) ∧ cur.size = N ∧ ∀ n, n < N → cur[n]? = some (.int .u8 ((f n : Nat) : Int))
theorem RowB.cn {w : World} {b N : Nat} {f : Nat → Nat} (h : RowB w b N f) (n : Nat) (hn : n < N) : w.cell? ⟨b, n, none⟩ = some (.int .u8 ((f n : Nat) : Int)) ∧ w.frozen? ⟨b, n, none⟩ = false := by
  obtain ⟨cur, h1, h2, h3⟩ := h; exact ⟨by rw [(cell_of h1 _).1, h3 n hn], (cell_of h1 n).2⟩
theorem RowB.lt {w : World} {b N : Nat} {f : Nat → Nat} (h : RowB w b N f) : b < w.heap.size := by
  obtain ⟨cur, h1, _⟩ := h; exact lt_of_some h1
theorem RowB.over {w w' : World} {b N : Nat} {f : Nat → Nat} (h : RowB w b N f) (e : w'.heap[b]? = w.heap[b]?) : RowB w' b N f := by
  obtain ⟨cur, h1, h2⟩ := h; exact ⟨cur, e.trans h1, h2⟩
theorem RowB.congr {w : World} {b N : Nat} {f g : Nat → Nat} (h : RowB w b N f) (e : ∀ n, n < N → f n = g n) : RowB w b N g := by
  obtain ⟨cur, h1, h2, h3⟩ := h; exact ⟨cur, h1, h2, fun n hn => by rw [h3 n hn, e n hn]⟩
theorem RowB.set {w : World} {b N : Nat} {f : Nat → Nat} (h : RowB w b N f) (n x : Nat) (hn : n < N) (X : Int) (hX : X = (x : Int)) : RowB (w.setCell ⟨b, n, none⟩ (.int .u8 X)) b N (upd f n x) := by
  obtain ⟨cur, h1, h2, h3⟩ := h
  subst hX
  refine ⟨_, set_of h1 _ _, by simpa using h2, ?_⟩
  intro m hm
  by_cases e : m = n
  · subst e; rw [Array.getElem?_setIfInBounds_self_of_lt (by omega)]; simp [upd]
  · rw [Array.getElem?_setIfInBounds_ne (by omega), h3 m hm]; simp [upd, e]
theorem RowB.bytes {w : World} {b N : Nat} {f : Nat → Nat} (h : RowB w b N f) (L : List Nat) (hl : L.length = N) (e : ∀ n, n < N → f n = L.getD n 0) : BytesAt w b 0 L := by
  intro i hi
  rw [Nat.zero_add, (h.cn i (by omega)).1, e i (by omega)]
theorem infoB : (Tryz.prog.info? 5).map (fun i => (i.zero, i.size, i.bytes)) = some (some (.int .u8 0), 1, 1) := by kernel_rfl
theorem made_byte (n j : Nat) (h : j < n) : (madeCells #[.int .u8 0] n)[j]? = some (.int .u8 ((0 : Nat) : Int)) := by
  simp [madeCells, h]
  simp [Nat.mod_one]
theorem make_bytes (W : World) (n : Nat) (hn : n ≤ 1000) : (Instr.makeSlice 30 (.int .i64 (n : Int)) (.int .i64 (n : Int))).run Tryz.prog W = .ok (.slice (some ⟨W.heap.size, 0, none⟩) n n) (W.alloc (.cells (madeCells #[.int .u8 0] n) 5)) := by
  obtain ⟨i0, hi, hz0, hz1, hz2⟩ := info_parts infoB
  have h := run_make (P := Tryz.prog) W 30 5 i0 _ Tryz.underlying30 hi hz0 .i64 .i64 (n : Int) (n : Int) (by omega) (by omega) (by rw [hz2]; omega) (by omega)
  rw [h, hz1]
  simp [Value.cells]
theorem rowB_begin (W : World) (n b : Nat) (hb : b = W.heap.size) : RowB (W.alloc (.cells (madeCells #[.int .u8 0] n) 5)) b n (fun _ => 0) :=
  ⟨_, alloc_new W _ _ hb, size_madeCells _ _, fun j hj => made_byte n j hj⟩
theorem fill_step (f : Nat → Nat) (j : Nat) : ∀ n, upd (fun n => if n < j then f n else 0) j (f j) n = if n < j + 1 then f n else 0 := by
  intro n
  unfold upd
  by_cases e : n = j
  · subst e; rw [if_pos rfl, if_pos (by omega)]
  · rw [if_neg e]
    dsimp only
    by_cases h : n < j
    · rw [if_pos h, if_pos (by omega)]
    · rw [if_neg h, if_neg (by omega)]
set_option maxRecDepth 10000 in
set_option maxHeartbeats 4000000 in
theorem fixed_any (w : World) :
    Calls Tryz.prog 70 #[] w fun e w' => (∃ k, e = .returned (.pointer (some ⟨k, 0, none⟩)) ∧ TabsIs w' k fixList (List.replicate 32 5) ∧ w.heap.size ≤ k) ∧ Below w.heap.size w w' := by
  have hmk : (Instr.makeSlice 30 (.int .i64 288) (.int .i64 288)).run Tryz.prog w = .ok (.slice (some ⟨w.heap.size, 0, none⟩) 288 288) (w.alloc (.cells (madeCells #[.int .u8 0] 288) 5)) := make_bytes w 288 (by omega)
  have hR0 := rowB_begin w 288 _ rfl
  go_enter Tryz.func70, Tryz.ntmps70
  go_wp2_with fail
  go_loopw [8] (fun iv wr => ∃ j : Nat, j ≤ 288 ∧ iv = .int .i64 (j : Int) ∧ RowB wr w.heap.size 288 (fun n => if n < j then fixLen n else 0) ∧ Below w.heap.size w wr ∧ wr.heap.size = w.heap.size + 1) (fun iv _ => 288 - (intOf iv).toNat)
  case atStart => exact ⟨0, by omega, rfl, hR0.congr (fun n _ => by simp), (Below.refl _ _).alloc (Nat.le_refl _) _, by simp⟩
  case round =>
    clear hmk hR0
    obtain ⟨j, hj, rfl, hR, hB, hz⟩ := hrel
    by_cases hlt : j < 288
    · obtain ⟨c1, c2⟩ := hR.cn j hlt
      have HF : Hid _ := fill_step fixLen j
      have HL : Hid (fixLen j = if 144 ≤ j ∧ j < 256 then 9 else if 256 ≤ j ∧ j < 280 then 7 else 8) := rfl
      have hfin : ∀ (x : Nat), fixLen j = x → RowB (wr.setCell ⟨w.heap.size, j, none⟩ (.int .u8 (x : Int))) w.heap.size 288 (fun n => if n < j + 1 then fixLen n else 0) := fun x hx =>
        (hR.set j (fixLen j) hlt _ (by rw [hx])).congr (fun n _ => HF.out n)
      by_cases h1 : j < 144
      · have d1 : decide ((j : Int) < 144) = true := decide_eq_true (by omega)
        go_wp2_with fail
        go_roundw
        case rel => exact ⟨j + 1, by omega, by go_num, hfin 8 (by rw [HL.out, if_neg (by omega), if_neg (by omega)]), hB.setCell (Nat.le_refl _) _, by simpa using hz⟩
        case measure => simp [intOf]; omega
      · have d1 : decide ((j : Int) < 144) = false := decide_eq_false (by omega)
        by_cases h2 : j < 256
        · have d2 : decide ((j : Int) < 256) = true := decide_eq_true (by omega)
          go_wp2_with fail
          go_roundw
          case rel => exact ⟨j + 1, by omega, by go_num, hfin 9 (by rw [HL.out, if_pos (by omega)]), hB.setCell (Nat.le_refl _) _, by simpa using hz⟩
          case measure => simp [intOf]; omega
        · have d2 : decide ((j : Int) < 256) = false := decide_eq_false (by omega)
          by_cases h3 : j < 280
          · have d3 : decide ((j : Int) < 280) = true := decide_eq_true (by omega)
            go_wp2_with fail
            go_roundw
            case rel => exact ⟨j + 1, by omega, by go_num, hfin 7 (by rw [HL.out, if_neg (by omega), if_pos (by omega)]), hB.setCell (Nat.le_refl _) _, by simpa using hz⟩
            case measure => simp [intOf]; omega
          · have d3 : decide ((j : Int) < 280) = false := decide_eq_false (by omega)
            go_wp2_with fail
            go_roundw
            case rel => exact ⟨j + 1, by omega, by go_num, hfin 8 (by rw [HL.out, if_neg (by omega), if_neg (by omega)]), hB.setCell (Nat.le_refl _) _, by simpa using hz⟩
            case measure => simp [intOf]; omega
    · have hj8 : j = 288 := by omega
      subst hj8
      have hmk : (Instr.makeSlice 30 (.int .i64 32) (.int .i64 32)).run Tryz.prog wr = .ok (.slice (some ⟨wr.heap.size, 0, none⟩) 32 32) (wr.alloc (.cells (madeCells #[.int .u8 0] 32) 5)) := make_bytes wr 32 (by omega)
      have hR0 := rowB_begin wr 32 (w.heap.size + 1) hz.symm
      have hR1 : RowB (wr.alloc (.cells (madeCells #[.int .u8 0] 32) 5)) w.heap.size 288 fixLen := (hR.congr (fun n hn => if_pos hn)).over (alloc_old hR.lt)
      have hB1 : Below w.heap.size w (wr.alloc (.cells (madeCells #[.int .u8 0] 32) 5)) := hB.alloc (by omega) _
      go_wp2_with fail
      go_loopw [36] (fun iv wx => ∃ j : Nat, j ≤ 32 ∧ iv = .int .i64 (j : Int) ∧ RowB wx (w.heap.size + 1) 32 (fun n => if n < j then 5 else 0) ∧ RowB wx w.heap.size 288 fixLen ∧ Below w.heap.size w wx ∧ wx.heap.size = w.heap.size + 2) (fun iv _ => 32 - (intOf iv).toNat)
      case atStart => exact ⟨0, by omega, rfl, hR0.congr (fun n _ => by simp), hR1, hB1, by simp; omega⟩
      case round =>
        clear hmk hR0 hR hR1 hB1 hB hz
        obtain ⟨j, hj, rfl, hR, hR1, hB, hz⟩ := hrel
        by_cases hlt2 : j < 32
        · obtain ⟨c1, c2⟩ := hR.cn j hlt2
          have HF : Hid _ := fill_step (fun _ => 5) j
          go_wp2_with fail
          go_roundw
          case rel => exact ⟨j + 1, by omega, by go_num, (hR.set j 5 hlt2 _ rfl).congr (fun n _ => HF.out n), hR1.over (set_other _ _ (by omega)), hB.setCell (show w.heap.size ≤ w.heap.size + 1 by omega) _, by simpa using hz⟩
          case measure => simp [intOf]; omega
        · have hj8 : j = 32 := by omega
          subst hj8
          have hA : BytesAt wr w.heap.size 0 fixList := hR1.bytes fixList (by simp [fixList]) (fun n hn => by simp [fixList, List.getD_eq_getElem?_getD, hn])
          have hD : BytesAt wr (w.heap.size + 1) 0 (List.replicate 32 5) := hR.bytes _ (by simp) (fun n hn => by
            rw [if_pos hn, List.getD_eq_getElem?_getD, List.getElem?_replicate, if_pos hn]; rfl)
          have hlen : fixList.length = 288 := by simp [fixList]
          have hlen2 : (List.replicate 32 5).length = 32 := by simp
          have hxa : ∀ x ∈ fixList, x ≤ 15 := by
            intro x hx
            simp only [fixList, List.mem_map] at hx
            obtain ⟨i, _, rfl⟩ := hx
            unfold fixLen; split <;> (try split) <;> omega
          go_wp2_with fail
          refine (newTables_any w.heap.size 0 288 (w.heap.size + 1) 0 32 fixList (List.replicate 32 5) _ hA (by omega) (by omega) hxa hD (by omega) (by omega) (fun x hx => by rw [List.eq_of_mem_replicate hx]; omega)).mono ?_
          rintro e w2 ⟨⟨k, rfl, hT, hk⟩, hB2⟩
          go_wp2_with fail
          go_ret
          exact ⟨⟨k, rfl, hT, by omega⟩, hB.trans (hB2.mono (by omega))⟩
end Go.Proofs.YtjfifmadldcjjaaGreatDoor.Pr
