/- The walk of codes.New, where a code's value is what its symbol stands for. -/
import Derived.Test.YtephkcdbnogdhaaGreatDoorMI
set_option linter.unusedVariables false
namespace Go.Proofs.YtephkcdbnogdhaaGreatDoor.Pr
open Go.RowKit Rf
theorem info3 : (Tryz.prog.info? 314).map (fun i => (i.zero, i.size, i.bytes)) = some (some (.agg #[.int .u8 0, .int .i64 0, .int .u64 0]), 3, 24) := by kernel_rfl
/-- the row of values in block vb, N of them: where one is known, it is what that symbol stands for -/
def ValsM (w : World) (vb N : Nat) (mean : Nat → Nat × Nat × Nat) (g : Nat → Option Nat) : Prop := ∃ cur, w.heap[vb]? = some (.cells cur 314 (0, 0)) ∧ cur.size = N * 3 ∧
  ∀ j y, j < N → g j = some y → cur[j * 3]? = some (.int .u8 ((mean y).1 : Int)) ∧ cur[j * 3 + 1]? = some (.int .i64 ((mean y).2.1 : Int)) ∧ cur[j * 3 + 2]? = some (.int .u64 ((mean y).2.2 : Int))
theorem ValsM.lt {w : World} {vb N : Nat} {mean : Nat → Nat × Nat × Nat} {g : Nat → Option Nat} (h : ValsM w vb N mean g) : vb < w.heap.size := by
  obtain ⟨cur, h1, _⟩ := h; exact lt_of_some h1
theorem ValsM.over {w w' : World} {vb N : Nat} {mean : Nat → Nat × Nat × Nat} {g : Nat → Option Nat} (h : ValsM w vb N mean g) (e : w'.heap[vb]? = w.heap[vb]?) : ValsM w' vb N mean g := by
  obtain ⟨cur, h1, h2⟩ := h; exact ⟨cur, e.trans h1, h2⟩
theorem ValsM.drew {w : World} {vb N : Nat} {mean : Nat → Nat × Nat × Nat} {g : Nat → Option Nat} (h : ValsM w vb N mean g) : ValsM w.drew vb N mean g := h
theorem ValsM.any {w : World} {vb N : Nat} {mean : Nat → Nat × Nat × Nat} {g : Nat → Option Nat} (h : ValsM w vb N mean g) (p q : Nat) (hp : p < N) (hq : q < 3) : (∃ v, w.cell? ⟨vb, p * 3 + q, none⟩ = some v) ∧ w.frozen? ⟨vb, p * 3 + q, none⟩ = false := by
  obtain ⟨cur, h1, h2, h3⟩ := h
  refine ⟨⟨cur[p * 3 + q]'(by omega), ?_⟩, (cell_of h1 _).2⟩
  rw [(cell_of h1 _).1, Array.getElem?_eq_getElem (by omega)]
theorem ValsM.set {w : World} {vb N : Nat} {mean : Nat → Nat × Nat × Nat} {g : Nat → Option Nat} (h : ValsM w vb N mean g) (p y : Nat) (hp : p < N) :
    ValsM (((w.setCell ⟨vb, p * 3, none⟩ (.int .u8 ((mean y).1 : Int))).setCell ⟨vb, p * 3 + 1, none⟩ (.int .i64 ((mean y).2.1 : Int))).setCell ⟨vb, p * 3 + 2, none⟩ (.int .u64 ((mean y).2.2 : Int))) vb N mean (fun j => if j = p then some y else g j) := by
  obtain ⟨cur, h1, h2, h3⟩ := h
  refine ⟨_, set_of (set_of (set_of h1 _ _) _ _) _ _, by simpa using h2, ?_⟩
  intro j z hj hg
  by_cases e : j = p
  · subst e; simp at hg; subst hg
    refine ⟨?_, ?_, ?_⟩
    · rw [Array.getElem?_setIfInBounds_ne (by omega), Array.getElem?_setIfInBounds_ne (by omega), Array.getElem?_setIfInBounds_self_of_lt (by omega)]
    · rw [Array.getElem?_setIfInBounds_ne (by omega), Array.getElem?_setIfInBounds_self_of_lt (by simp; omega)]
    · rw [Array.getElem?_setIfInBounds_self_of_lt (by simp; omega)]
  · simp only [if_neg e] at hg
    have h4 := h3 j z hj hg
    refine ⟨?_, ?_, ?_⟩
    · rw [Array.getElem?_setIfInBounds_ne (by omega), Array.getElem?_setIfInBounds_ne (by omega), Array.getElem?_setIfInBounds_ne (by omega)]; exact h4.1
    · rw [Array.getElem?_setIfInBounds_ne (by omega), Array.getElem?_setIfInBounds_ne (by omega), Array.getElem?_setIfInBounds_ne (by omega)]; exact h4.2.1
    · rw [Array.getElem?_setIfInBounds_ne (by omega), Array.getElem?_setIfInBounds_ne (by omega), Array.getElem?_setIfInBounds_ne (by omega)]; exact h4.2.2
theorem litM_agg (y : Nat) (w : World) (hy : y ≤ 400) :
    Calls Tryz.prog 223 #[.int .i64 (y : Int)] w fun e w' => e = .returned (.agg #[.int .u8 ((litM y).1 : Int), .int .i64 ((litM y).2.1 : Int), .int .u64 ((litM y).2.2 : Int)]) ∧ w' = w.alloc (.cells #[.int .u8 ((litM y).1 : Int), .int .i64 ((litM y).2.1 : Int), .int .u64 ((litM y).2.2 : Int)] 314) := litM_any y w hy
set_option maxRecDepth 10000 in
set_option maxHeartbeats 4000000 in
theorem newL_any (b o cap : Nat) (L : List Nat) (w : World) (h : BytesAt w b o L) (hb : b < w.heap.size) (hl : L.length ≤ 400) (hx : ∀ x ∈ L, x ≤ 15) :
    Calls Tryz.prog 222 #[.slice (some ⟨b, o, none⟩) L.length cap, .func (.func 223) #[] #[]] w fun e w' => (∃ k, e = .returned (.pointer (some ⟨k, 0, none⟩)) ∧ TabM w' k litM L ∧ w.heap.size ≤ k) ∧ Below w.heap.size w w' := by
  go_enter Tryz.func222, Tryz.ntmps222
  go_wp2_with fail
  go_loopw [16] (fun i wr => ∃ j : Nat, j ≤ L.length ∧ i = .int .i64 (j : Int) ∧ Tbl wr w.heap.size 343 (longest (L.take j)) (cN (L.take j)) (.slice none 0 0) ∧ Below w.heap.size w wr ∧ wr.heap.size = w.heap.size + 1) (fun i _ => L.length - (intOf i).toNat)
  case atStart => exact ⟨0, Nat.zero_le _, rfl, tbl_begin w _, (Below.refl _ _).alloc (Nat.le_refl _) _, by simp⟩
  case round =>
    obtain ⟨j, hj, rfl, hT, hB, hz⟩ := hrel
    by_cases hlt : j < L.length
    · have hc := (h.over (hB.block b hb)) j hlt
      have hx15 : L.getD j 0 ≤ 15 := getD_le L 15 hx j
      have HT : Hid _ := take_snoc L j hlt
      generalize L.getD j 0 = x at *
      have c0 := hT.c0
      have cx := hT.cn x hx15
      have f0 := hT.fr 0
      have fx := hT.fr (1 + x)
      have hcl : cN (L.take j) x ≤ 400 := by have := cN_le (L.take j) x; simp at this; omega
      have hll : longest (L.take j) ≤ 15 := longest_le _ 15 (fun y hy => hx y (List.mem_of_mem_take hy))
      have HLG : Hid (longest (L.take j ++ [x]) = max (longest (L.take j)) x) := longest_snoc _ _
      by_cases h0 : 0 < x
      · have T1 := hT.setN x (cN (L.take j) x + 1) hx15 ((cN (L.take j) x : Int) + 1) (by omega)
        have T1c := T1.c0
        have T1f := T1.fr 0
        obtain ⟨cc, hcc⟩ : ∃ cc, cc = cN (L.take j) x := ⟨_, rfl⟩
        rw [← hcc] at cx hcl T1 T1c T1f
        have HCC : Hid (∀ n, upd (cN (L.take j)) x (cc + 1) n = cN (L.take j ++ [x]) n) := fun n => by rw [hcc]; exact cN_upd _ x h0 n
        clear hcc
        generalize longest (L.take j) = lg at *
        go_wp2_with fail
        go_region
        go_wp2_with fail
        go_roundw
        case rel =>
          refine ⟨j + 1, by omega, by go_num, ?_, below_drew ((hB.setCell (Nat.le_refl _) _).setCell (Nat.le_refl _) _), by simpa using hz⟩
          rw [HT.out, HLG.out]
          exact ((T1.setL (max lg x) _ (by split <;> omega)).congr (fun n _ => HCC.out n)).drew
        case measure => simp [intOf]; omega
      · have HN : Hid (longest (L.take j ++ [x]) = longest (L.take j) ∧ ∀ n, cN (L.take j) n = cN (L.take j ++ [x]) n) := (⟨longest_none _ x h0, cN_none _ x h0⟩ : _ ∧ _)
        go_wp2_with fail
        go_roundw
        case rel =>
          refine ⟨j + 1, by omega, by go_num, ?_, hB, hz⟩
          rw [HT.out, HN.out.1]
          exact hT.congr (fun n _ => HN.out.2 n)
        case measure => simp [intOf]; omega
    · have htk : L.take j = L := List.take_of_length_le (by omega)
      rw [htk] at hT
      clear htk
      have hA0 := arr_begin wr 340
      have hT0 := hT.over (alloc_old (o := .cells #[.int .i64 0, .int .i64 0, .int .i64 0, .int .i64 0, .int .i64 0, .int .i64 0, .int .i64 0, .int .i64 0, .int .i64 0, .int .i64 0, .int .i64 0, .int .i64 0, .int .i64 0, .int .i64 0, .int .i64 0, .int .i64 0] 340) hT.lt)
      rw [hz] at hA0
      go_wp2_with fail
      go_loopw [9] (fun lv wx => ∃ n : Nat, 1 ≤ n ∧ n ≤ 15 ∧ lv = .int .i64 (n : Int) ∧ Tbl wx w.heap.size 343 (longest L) (cN L) (.slice none 0 0) ∧ Arr wx (w.heap.size + 1) 340 (fun i => if i ≤ n then sN L i else 0) ∧ Below w.heap.size w wx ∧ wx.heap.size = w.heap.size + 2) (fun lv _ => 16 - (intOf lv).toNat)
      case atStart =>
        refine ⟨1, by omega, by omega, rfl, hT0, hA0.congr (fun n hn => ?_), hB.alloc (by omega) _, by simp; omega⟩
        rcases n with _ | _ | n
        · simp [sN]
        · simp [sN, cN]
        · simp
      case round =>
        clear hT hB hz hA0 hT0
        obtain ⟨n, hn1, hn2, rfl, hT, hA, hB, hz⟩ := hrel
        have hsl : sN L n ≤ 6000 := by have := sN_le' L hl n; omega
        have hcl : cN L n ≤ 400 := by have := cN_le L n; omega
        by_cases hn : n < 15
        · have a1 := hA.cn n (by omega)
          have a2 := hA.cn (n + 1) (by omega)
          have t1 := hT.cn n (by omega)
          have fa := hA.fr (n + 1)
          have HS : Hid (sN L (n + 1) = sN L n + cN L n) := rfl
          have HU : Hid _ := sN_step L n
          simp only [Nat.le_refl, if_true, show ¬ n + 1 ≤ n by omega, if_false] at a1 a2
          obtain ⟨sn, hsn⟩ : ∃ sn, sn = sN L n := ⟨_, rfl⟩
          obtain ⟨cn, hcn⟩ : ∃ cn, cn = cN L n := ⟨_, rfl⟩
          rw [← hsn] at a1 hsl
          rw [← hcn] at t1 hcl
          have HX : Hid (sN L (n + 1) = sn + cn) := (by rw [HS.out, hsn, hcn] : _ = _)
          clear hsn hcn
          go_wp2_with fail
          go_region
          go_wp2_with fail
          go_roundw
          case rel =>
            refine ⟨n + 1, by omega, by omega, by go_num, (hT.over (set_other _ _ (by omega))).drew, ?_, below_drew (hB.setCell (show w.heap.size ≤ w.heap.size + 1 by omega) _), by simpa using hz⟩
            exact ((hA.set (n + 1) (sN L (n + 1)) (by omega) _ (by rw [HX.out]; omega)).congr (fun i hi => HU.out i hi)).drew
          case measure => simp [intOf]; omega
        · have hn15 : n = 15 := by omega
          subst hn15
          have a1 := hA.cn 15 (by omega)
          have t1 := hT.cn 15 (by omega)
          have t17 := hT.c17
          have f17 := hT.fr 17
          have HNN : Hid (sN L 16 = sN L 15 + cN L 15) := rfl
          simp only [Nat.le_refl, if_true] at a1
          obtain ⟨NN, hNN⟩ : ∃ NN, NN = sN L 16 := ⟨_, rfl⟩
          have hNl : NN ≤ 6400 := by rw [hNN]; exact sN_le L hl
          have hsum : (sN L 15 : Int) + (cN L 15 : Int) = (NN : Int) := by rw [hNN, HNN.out]; omega
          have HN : Hid (NN = sN L 16) := hNN
          have hA2 : Arr wr (w.heap.size + 1) 340 (nxF L 0) := hA.congr (fun i hi => by
            rw [if_pos hi]; unfold nxF
            by_cases e0 : i = 0
            · subst e0; simp [sN]
            · rw [if_neg e0]; simp [rk, symsTo])
          clear hNN hA
          generalize sN L 15 = s15 at *
          generalize cN L 15 = c15 at *
          obtain ⟨i0, hi, hz0, hz1, hz2⟩ := info_parts info3
          have hmk : ∀ W : World, (Instr.makeSlice 341 (.int .i64 (NN : Int)) (.int .i64 (NN : Int))).run Tryz.prog W = .ok (.slice (some ⟨W.heap.size, 0, none⟩) NN NN) (W.alloc (.cells (madeCells #[.int .u8 0, .int .i64 0, .int .u64 0] (NN * 3)) 314)) := fun W => by
            have h := run_make (P := Tryz.prog) W 341 314 i0 _ Tryz.underlying341 hi hz0 .i64 .i64 (NN : Int) (NN : Int) (by omega) (by omega) (by rw [hz2]; omega) (by omega)
            rw [h, hz1]
            simp [Value.cells]
          have q17 : ∀ o : Obj, (wr.alloc o).cell? ⟨w.heap.size, 17, none⟩ = _ := fun o => Er.cell_alloc t17 o
          have g17 : ∀ o : Obj, (wr.alloc o).frozen? ⟨w.heap.size, 17, none⟩ = false := fun o => Er.frozen_alloc t17 o f17
          clear hi hz0 hz1 hz2 t17 f17
          go_wp2_with fail
          go_region
          have T2 : Tbl ((wr.setCell ⟨w.heap.size, 17, none⟩ (.slice (some ⟨w.heap.size + 2, 0, none⟩) NN NN)).alloc (.cells (madeCells #[.int .u8 0, .int .i64 0, .int .u64 0] (NN * 3)) 314)).drew w.heap.size 343 (longest L) (cN L) (.slice (some ⟨w.heap.size + 2, 0, none⟩) NN NN) :=
            ((hT.setV _).over (alloc_old (by simp; omega))).drew
          have A2 : Arr ((wr.setCell ⟨w.heap.size, 17, none⟩ (.slice (some ⟨w.heap.size + 2, 0, none⟩) NN NN)).alloc (.cells (madeCells #[.int .u8 0, .int .i64 0, .int .u64 0] (NN * 3)) 314)).drew (w.heap.size + 1) 340 (nxF L 0) :=
            ((hA2.over (set_other _ _ (by omega))).over (alloc_old (by simp; omega))).drew
          have V2 : ValsM ((wr.setCell ⟨w.heap.size, 17, none⟩ (.slice (some ⟨w.heap.size + 2, 0, none⟩) NN NN)).alloc (.cells (madeCells #[.int .u8 0, .int .i64 0, .int .u64 0] (NN * 3)) 314)).drew (w.heap.size + 2) NN litM (fun _ => none) :=
            ⟨_, alloc_new _ _ _ (by simp; omega), size_madeCells _ _, fun j y _ h => by cases h⟩
          have B2 : Below w.heap.size w ((wr.setCell ⟨w.heap.size, 17, none⟩ (.slice (some ⟨w.heap.size + 2, 0, none⟩) NN NN)).alloc (.cells (madeCells #[.int .u8 0, .int .i64 0, .int .u64 0] (NN * 3)) 314)).drew := below_drew ((hB.setCell (Nat.le_refl _) _).alloc (by simp; omega) _)
          clear hT hA2 hB hz q17 g17 hmk t1 a1
          generalize ((wr.setCell ⟨w.heap.size, 17, none⟩ (.slice (some ⟨w.heap.size + 2, 0, none⟩) NN NN)).alloc (.cells (madeCells #[.int .u8 0, .int .i64 0, .int .u64 0] (NN * 3)) 314)).drew = w2 at *
          go_wp2_with fail
          go_loopw [74] (fun iv wx => ∃ (i : Nat) (g : Nat → Option Nat), i ≤ L.length ∧ iv = .int .i64 (i : Int) ∧ Tbl wx w.heap.size 343 (longest L) (cN L) (.slice (some ⟨w.heap.size + 2, 0, none⟩) NN NN) ∧ Arr wx (w.heap.size + 1) 340 (nxF L i) ∧ ValsM wx (w.heap.size + 2) NN litM g ∧ Placed L i g ∧ Below w.heap.size w wx) (fun iv _ => L.length - (intOf iv).toNat)
          case atStart => exact ⟨0, _, Nat.zero_le _, rfl, T2, A2, V2, Placed.begin L _, B2⟩
          case round =>
            clear T2 A2 V2 B2
            obtain ⟨i, g, hi, rfl, hT, hA, hV, hP, hB⟩ := hrel
            by_cases hlt : i < L.length
            · have hc := (h.over (hB.block b hb)) i hlt
              have hx15 : L.getD i 0 ≤ 15 := getD_le L 15 hx i
              by_cases h0 : 0 < L.getD i 0
              · have hA' := (hA.cn (L.getD i 0) hx15)
                have fA := hA.fr (L.getD i 0)
                have c17 := hT.c17
                have hpl : sN L (L.getD i 0) + rk L (L.getD i 0) i < NN := by rw [HN.out]; exact place_lt L _ _ hx15 (rk_lt L i hlt (by omega))
                obtain ⟨⟨v0, hv0⟩, fv0⟩ := hV.any _ 0 hpl (by omega)
                obtain ⟨⟨v1, hv1⟩, fv1⟩ := hV.any _ 1 hpl (by omega)
                obtain ⟨⟨v2, hv2⟩, fv2⟩ := hV.any _ 2 hpl (by omega)
                have HP : Hid _ := hP.more hlt (by omega)
                have HX : Hid _ := nx_step L i h0
                rw [nxF_at L i _ h0] at hA'
                obtain ⟨x, hx0⟩ : ∃ x, x = L.getD i 0 := ⟨_, rfl⟩
                rw [← hx0] at hc hx15 h0 hA' fA hpl hv0 fv0 hv1 fv1 hv2 fv2
                have HPx : Hid (Placed L (i + 1) (fun j => if j = sN L x + rk L x i then some i else g j)) := (by rw [hx0]; exact HP.out : Placed _ _ _)
                have HXx : Hid (∀ n, n ≤ 15 → upd (nxF L i) x (sN L x + rk L x i + 1) n = nxF L (i + 1) n) := (by rw [hx0]; exact HX.out : ∀ n, n ≤ 15 → _)
                clear HP HX hx0
                obtain ⟨p, hp⟩ : ∃ p, p = sN L x + rk L x i := ⟨_, rfl⟩
                simp only [← hp] at hA' hpl hv0 fv0 hv1 fv1 hv2 fv2
                have HPp : Hid (p = sN L x + rk L x i) := hp
                clear hp
                have hAo : ∀ o : Obj, Arr (wr.alloc o) (w.heap.size + 1) 340 (nxF L i) := fun o => hA.over (alloc_old hA.lt)
                have hTo : ∀ o : Obj, Tbl (wr.alloc o) w.heap.size 343 (longest L) (cN L) (.slice (some ⟨w.heap.size + 2, 0, none⟩) NN NN) := fun o => hT.over (alloc_old hT.lt)
                have hVo : ∀ o : Obj, ValsM (wr.alloc o) (w.heap.size + 2) NN litM g := fun o => hV.over (alloc_old hV.lt)
                have hBo : ∀ o : Obj, Below w.heap.size w (wr.alloc o) := fun o => hB.alloc (Nat.le_of_lt hT.lt) _
                simp only [Nat.add_zero] at hv0 fv0
                have kA' : ∀ o : Obj, (wr.alloc o).cell? ⟨w.heap.size + 1, x, none⟩ = _ := fun o => Er.cell_alloc hA' o
                have k17 : ∀ o : Obj, (wr.alloc o).cell? ⟨w.heap.size, 17, none⟩ = _ := fun o => Er.cell_alloc c17 o
                have kv0 : ∀ o : Obj, (wr.alloc o).cell? ⟨w.heap.size + 2, p * 3, none⟩ = _ := fun o => Er.cell_alloc hv0 o
                have kv1 : ∀ o : Obj, (wr.alloc o).cell? ⟨w.heap.size + 2, p * 3 + 1, none⟩ = _ := fun o => Er.cell_alloc hv1 o
                have kv2 : ∀ o : Obj, (wr.alloc o).cell? ⟨w.heap.size + 2, p * 3 + 2, none⟩ = _ := fun o => Er.cell_alloc hv2 o
                have kf0 : ∀ o : Obj, (wr.alloc o).frozen? ⟨w.heap.size + 2, p * 3, none⟩ = false := fun o => Er.frozen_alloc hv0 o fv0
                have kf1 : ∀ o : Obj, (wr.alloc o).frozen? ⟨w.heap.size + 2, p * 3 + 1, none⟩ = false := fun o => Er.frozen_alloc hv1 o fv1
                have kf2 : ∀ o : Obj, (wr.alloc o).frozen? ⟨w.heap.size + 2, p * 3 + 2, none⟩ = false := fun o => Er.frozen_alloc hv2 o fv2
                have i400 : i ≤ 400 := by omega
                go_upto_region 19 with fail
                go_cut [] (fun wx => Tbl wx w.heap.size 343 (longest L) (cN L) (.slice (some ⟨w.heap.size + 2, 0, none⟩) NN NN) ∧ Arr wx (w.heap.size + 1) 340 (nxF L i) ∧ ValsM wx (w.heap.size + 2) NN litM (fun j => if j = p then some i else g j) ∧ Below w.heap.size w wx)
                case first =>
                  go_region_with ((go_at_call 223; refine (litM_agg i _ i400).mono ?_; rintro e w3 ⟨rfl, rfl⟩))
                  all_goals
                    go_wp2_with fail
                    go_meet
                    case rel => exact ⟨((((hTo _).over (set_other _ _ (show w.heap.size ≠ w.heap.size + 2 by omega))).over (set_other _ _ (show w.heap.size ≠ w.heap.size + 2 by omega))).over (set_other _ _ (show w.heap.size ≠ w.heap.size + 2 by omega))).drew, ((((hAo _).over (set_other _ _ (show w.heap.size + 1 ≠ w.heap.size + 2 by omega))).over (set_other _ _ (show w.heap.size + 1 ≠ w.heap.size + 2 by omega))).over (set_other _ _ (show w.heap.size + 1 ≠ w.heap.size + 2 by omega))).drew, ((hVo _).set p i hpl).drew, below_drew ((((hBo _).setCell (show w.heap.size ≤ w.heap.size + 2 by omega) _).setCell (show w.heap.size ≤ w.heap.size + 2 by omega) _).setCell (show w.heap.size ≤ w.heap.size + 2 by omega) _)⟩
                case rest =>
                  obtain ⟨hT2, hA2, hV2, hB2⟩ := hcut
                  have hA2c := hA2.cn x hx15
                  have hA2f := hA2.fr x
                  rw [nxF_at L i x h0, ← HPp.out] at hA2c
                  have hp6 : p ≤ 6400 := by omega
                  clear hTo hAo hVo hBo kA' k17 kv0 kv1 kv2 kf0 kf1 kf2 hT hA hB hV hv0 fv0 hv1 fv1 hv2 fv2 fA hA' c17 hc
                  go_wp2_with fail
                  go_roundw
                  case rel =>
                    refine ⟨i + 1, (fun j => if j = p then some i else g j), by omega, by go_num, hT2.over (set_other _ _ (by omega)), ?_, hV2.over (set_other _ _ (by omega)), ?_, hB2.setCell (show w.heap.size ≤ w.heap.size + 1 by omega) _⟩
                    · refine (hA2.set x (p + 1) hx15 _ (by omega)).congr (fun n hn => ?_)
                      rw [HPp.out]; exact HXx.out n hn
                    · rw [HPp.out]; exact HPx.out
                  case measure => simp [intOf]; omega
              · have h00 : L.getD i 0 = 0 := by omega
                have HP : Hid (Placed L (i + 1) g) := hP.none h00
                have HR : Hid (∀ n, n ≤ 15 → nxF L i n = nxF L (i + 1) n) := nx_none L i h00
                rw [h00] at hc
                go_wp2_with fail
                go_roundw
                case rel => exact ⟨i + 1, g, by omega, by go_num, hT, hA.congr (fun n hn => HR.out n hn), hV, HP.out, hB⟩
                case measure => simp [intOf]; omega
            · have hil : i = L.length := by omega
              subst hil
              have hTI : TabM wr w.heap.size litM L := by
                obtain ⟨vcur, v1, v2, v3⟩ := hV
                refine ⟨w.heap.size + 2, vcur, Tbl.hd (by rw [← HN.out]; exact hT), v1, fun j hj => ?_⟩
                exact v3 j _ (by rw [HN.out]; exact hj) (hP.all j hj)
              go_wp2_with fail
              go_ret
              exact ⟨⟨_, rfl, hTI, Nat.le_refl _⟩, hB⟩
end Go.Proofs.YtephkcdbnogdhaaGreatDoor.Pr
