/- The walk of codes.New for distances. -/
import Derived.Test.YtephkcdbnogdhaaGreatDoorMB
import Derived.Test.YtephkcdbnogdhaaGreatDoorMJ
import Derived.Lib.Builder
import Derived.Lib.UnsafeStr
set_option linter.unusedVariables false
namespace Go.Proofs.YtephkcdbnogdhaaGreatDoor.Pr
open Go.RowKit Rf
theorem distM_agg (y : Nat) (w : World) (hy : y ≤ 400) :
    Calls Tryz.prog 224 #[.int .i64 (y : Int)] w fun e w' => e = .returned (.agg #[.int .u8 ((distM y).1 : Int), .int .i64 ((distM y).2.1 : Int), .int .u64 ((distM y).2.2 : Int)]) ∧ w' = w.alloc (.cells #[.int .u8 ((distM y).1 : Int), .int .i64 ((distM y).2.1 : Int), .int .u64 ((distM y).2.2 : Int)] 314) := distM_any y w hy
set_option maxRecDepth 10000 in
set_option maxHeartbeats 4000000 in
theorem newD_any (b o cap : Nat) (L : List Nat) (w : World) (h : BytesAt w b o L) (hb : b < w.heap.size) (hl : L.length ≤ 400) (hx : ∀ x ∈ L, x ≤ 15) :
    Calls Tryz.prog 222 #[.slice (some ⟨b, o, none⟩) L.length cap, .func (.func 224) #[] #[]] w fun e w' => (∃ k, e = .returned (.pointer (some ⟨k, 0, none⟩)) ∧ TabM w' k distM L ∧ w.heap.size ≤ k) ∧ Below w.heap.size w w' := by
  go_enter Tryz.func222, Tryz.ntmps222
  go_wp2_with fail
  go_loopw [16] (fun i wr => ∃ j : Nat, j ≤ L.length ∧ i = .int .i64 (j : Int) ∧ Tbl wr w.heap.size 343 (longest (L.take j)) (cN (L.take j)) (.slice none 0 0) ∧ Below w.heap.size w wr ∧ wr.heap.size = w.heap.size + 1) (fun i _ => L.length - (intOf i).toNat)
  case atStart => exact ⟨0, Nat.zero_le _, rfl, tbl_begin w _, (Below.refl _ _).alloc (Nat.le_refl _) _, by simp⟩
  case round =>
    obtain ⟨j, hj, rfl, hT, hB, hz⟩ := hrel
    by_cases hlt : j < L.length
    · have hc := (h.over (hB.block b hb)) j hlt
      have hx15 : L.getD j 0 ≤ 15 := getD_le L 15 hx j
      have HT : Hid _ := take_snoc L j hlt
      generalize L.getD j 0 = x at *
      have c0 := hT.c0
      have cx := hT.cn x hx15
      have f0 := hT.fr 0
      have fx := hT.fr (1 + x)
      have hcl : cN (L.take j) x ≤ 400 := by have := cN_le (L.take j) x; simp at this; omega
      have hll : longest (L.take j) ≤ 15 := longest_le _ 15 (fun y hy => hx y (List.mem_of_mem_take hy))
      have HLG : Hid (longest (L.take j ++ [x]) = max (longest (L.take j)) x) := longest_snoc _ _
      by_cases h0 : 0 < x
      · have T1 := hT.setN x (cN (L.take j) x + 1) hx15 ((cN (L.take j) x : Int) + 1) (by omega)
        have T1c := T1.c0
        have T1f := T1.fr 0
        obtain ⟨cc, hcc⟩ : ∃ cc, cc = cN (L.take j) x := ⟨_, rfl⟩
        rw [← hcc] at cx hcl T1 T1c T1f
        have HCC : Hid (∀ n, upd (cN (L.take j)) x (cc + 1) n = cN (L.take j ++ [x]) n) := fun n => by rw [hcc]; exact cN_upd _ x h0 n
        clear hcc
        generalize longest (L.take j) = lg at *
        go_wp2_with fail
        go_region
        go_wp2_with fail
        go_roundw
        case rel =>
          refine ⟨j + 1, by omega, by go_num, ?_, below_drew ((hB.setCell (Nat.le_refl _) _).setCell (Nat.le_refl _) _), by simpa using hz⟩
          rw [HT.out, HLG.out]
          exact ((T1.setL (max lg x) _ (by split <;> omega)).congr (fun n _ => HCC.out n)).drew
        case measure => simp [intOf]; omega
      · have HN : Hid (longest (L.take j ++ [x]) = longest (L.take j) ∧ ∀ n, cN (L.take j) n = cN (L.take j ++ [x]) n) := (⟨longest_none _ x h0, cN_none _ x h0⟩ : _ ∧ _)
        go_wp2_with fail
        go_roundw
        case rel =>
          refine ⟨j + 1, by omega, by go_num, ?_, hB, hz⟩
          rw [HT.out, HN.out.1]
          exact hT.congr (fun n _ => HN.out.2 n)
        case measure => simp [intOf]; omega
    · have htk : L.take j = L := List.take_of_length_le (by omega)
      rw [htk] at hT
      clear htk
      have hA0 := arr_begin wr 340
      have hT0 := hT.over (alloc_old (o := .cells #[.int .i64 0, .int .i64 0, .int .i64 0, .int .i64 0, .int .i64 0, .int .i64 0, .int .i64 0, .int .i64 0, .int .i64 0, .int .i64 0, .int .i64 0, .int .i64 0, .int .i64 0, .int .i64 0, .int .i64 0, .int .i64 0] 340) hT.lt)
      rw [hz] at hA0
      go_wp2_with fail
      go_loopw [9] (fun lv wx => ∃ n : Nat, 1 ≤ n ∧ n ≤ 15 ∧ lv = .int .i64 (n : Int) ∧ Tbl wx w.heap.size 343 (longest L) (cN L) (.slice none 0 0) ∧ Arr wx (w.heap.size + 1) 340 (fun i => if i ≤ n then sN L i else 0) ∧ Below w.heap.size w wx ∧ wx.heap.size = w.heap.size + 2) (fun lv _ => 16 - (intOf lv).toNat)
      case atStart =>
        refine ⟨1, by omega, by omega, rfl, hT0, hA0.congr (fun n hn => ?_), hB.alloc (by omega) _, by simp; omega⟩
        rcases n with _ | _ | n
        · simp [sN]
        · simp [sN, cN]
        · simp
      case round =>
        clear hT hB hz hA0 hT0
        obtain ⟨n, hn1, hn2, rfl, hT, hA, hB, hz⟩ := hrel
        have hsl : sN L n ≤ 6000 := by have := sN_le' L hl n; omega
        have hcl : cN L n ≤ 400 := by have := cN_le L n; omega
        by_cases hn : n < 15
        · have a1 := hA.cn n (by omega)
          have a2 := hA.cn (n + 1) (by omega)
          have t1 := hT.cn n (by omega)
          have fa := hA.fr (n + 1)
          have HS : Hid (sN L (n + 1) = sN L n + cN L n) := rfl
          have HU : Hid _ := sN_step L n
          simp only [Nat.le_refl, if_true, show ¬ n + 1 ≤ n by omega, if_false] at a1 a2
          obtain ⟨sn, hsn⟩ : ∃ sn, sn = sN L n := ⟨_, rfl⟩
          obtain ⟨cn, hcn⟩ : ∃ cn, cn = cN L n := ⟨_, rfl⟩
          rw [← hsn] at a1 hsl
          rw [← hcn] at t1 hcl
          have HX : Hid (sN L (n + 1) = sn + cn) := (by rw [HS.out, hsn, hcn] : _ = _)
          clear hsn hcn
          go_wp2_with fail
          go_region
          go_wp2_with fail
          go_roundw
          case rel =>
            refine ⟨n + 1, by omega, by omega, by go_num, (hT.over (set_other _ _ (by omega))).drew, ?_, below_drew (hB.setCell (show w.heap.size ≤ w.heap.size + 1 by omega) _), by simpa using hz⟩
            exact ((hA.set (n + 1) (sN L (n + 1)) (by omega) _ (by rw [HX.out]; omega)).congr (fun i hi => HU.out i hi)).drew
          case measure => simp [intOf]; omega
        · have hn15 : n = 15 := by omega
          subst hn15
          have a1 := hA.cn 15 (by omega)
          have t1 := hT.cn 15 (by omega)
          have t17 := hT.c17
          have f17 := hT.fr 17
          have HNN : Hid (sN L 16 = sN L 15 + cN L 15) := rfl
          simp only [Nat.le_refl, if_true] at a1
          obtain ⟨NN, hNN⟩ : ∃ NN, NN = sN L 16 := ⟨_, rfl⟩
          have hNl : NN ≤ 6400 := by rw [hNN]; exact sN_le L hl
          have hsum : (sN L 15 : Int) + (cN L 15 : Int) = (NN : Int) := by rw [hNN, HNN.out]; omega
          have HN : Hid (NN = sN L 16) := hNN
          have hA2 : Arr wr (w.heap.size + 1) 340 (nxF L 0) := hA.congr (fun i hi => by
            rw [if_pos hi]; unfold nxF
            by_cases e0 : i = 0
            · subst e0; simp [sN]
            · rw [if_neg e0]; simp [rk, symsTo])
          clear hNN hA
          generalize sN L 15 = s15 at *
          generalize cN L 15 = c15 at *
          obtain ⟨i0, hi, hz0, hz1, hz2⟩ := info_parts info3
          have hmk : ∀ W : World, (Instr.makeSlice 341 (.int .i64 (NN : Int)) (.int .i64 (NN : Int))).run Tryz.prog W = .ok (.slice (some ⟨W.heap.size, 0, none⟩) NN NN) (W.alloc (.cells (madeCells #[.int .u8 0, .int .i64 0, .int .u64 0] (NN * 3)) 314)) := fun W => by
            have h := run_make (P := Tryz.prog) W 341 314 i0 _ Tryz.underlying341 hi hz0 .i64 .i64 (NN : Int) (NN : Int) (by omega) (by omega) (by rw [hz2]; omega) (by omega)
            rw [h, hz1]
            simp [Value.cells]
          have q17 : ∀ o : Obj, (wr.alloc o).cell? ⟨w.heap.size, 17, none⟩ = _ := fun o => Er.cell_alloc t17 o
          have g17 : ∀ o : Obj, (wr.alloc o).frozen? ⟨w.heap.size, 17, none⟩ = false := fun o => Er.frozen_alloc t17 o f17
          clear hi hz0 hz1 hz2 t17 f17
          go_wp2_with fail
          go_region
          have T2 : Tbl ((wr.setCell ⟨w.heap.size, 17, none⟩ (.slice (some ⟨w.heap.size + 2, 0, none⟩) NN NN)).alloc (.cells (madeCells #[.int .u8 0, .int .i64 0, .int .u64 0] (NN * 3)) 314)).drew w.heap.size 343 (longest L) (cN L) (.slice (some ⟨w.heap.size + 2, 0, none⟩) NN NN) :=
            ((hT.setV _).over (alloc_old (by simp; omega))).drew
          have A2 : Arr ((wr.setCell ⟨w.heap.size, 17, none⟩ (.slice (some ⟨w.heap.size + 2, 0, none⟩) NN NN)).alloc (.cells (madeCells #[.int .u8 0, .int .i64 0, .int .u64 0] (NN * 3)) 314)).drew (w.heap.size + 1) 340 (nxF L 0) :=
            ((hA2.over (set_other _ _ (by omega))).over (alloc_old (by simp; omega))).drew
          have V2 : ValsM ((wr.setCell ⟨w.heap.size, 17, none⟩ (.slice (some ⟨w.heap.size + 2, 0, none⟩) NN NN)).alloc (.cells (madeCells #[.int .u8 0, .int .i64 0, .int .u64 0] (NN * 3)) 314)).drew (w.heap.size + 2) NN distM (fun _ => none) :=
            ⟨_, alloc_new _ _ _ (by simp; omega), size_madeCells _ _, fun j y _ h => by cases h⟩
          have B2 : Below w.heap.size w ((wr.setCell ⟨w.heap.size, 17, none⟩ (.slice (some ⟨w.heap.size + 2, 0, none⟩) NN NN)).alloc (.cells (madeCells #[.int .u8 0, .int .i64 0, .int .u64 0] (NN * 3)) 314)).drew := below_drew ((hB.setCell (Nat.le_refl _) _).alloc (by simp; omega) _)
          clear hT hA2 hB hz q17 g17 hmk t1 a1
          generalize ((wr.setCell ⟨w.heap.size, 17, none⟩ (.slice (some ⟨w.heap.size + 2, 0, none⟩) NN NN)).alloc (.cells (madeCells #[.int .u8 0, .int .i64 0, .int .u64 0] (NN * 3)) 314)).drew = w2 at *
          go_wp2_with fail
          go_loopw [74] (fun iv wx => ∃ (i : Nat) (g : Nat → Option Nat), i ≤ L.length ∧ iv = .int .i64 (i : Int) ∧ Tbl wx w.heap.size 343 (longest L) (cN L) (.slice (some ⟨w.heap.size + 2, 0, none⟩) NN NN) ∧ Arr wx (w.heap.size + 1) 340 (nxF L i) ∧ ValsM wx (w.heap.size + 2) NN distM g ∧ Placed L i g ∧ Below w.heap.size w wx) (fun iv _ => L.length - (intOf iv).toNat)
          case atStart => exact ⟨0, _, Nat.zero_le _, rfl, T2, A2, V2, Placed.begin L _, B2⟩
          case round =>
            clear T2 A2 V2 B2
            obtain ⟨i, g, hi, rfl, hT, hA, hV, hP, hB⟩ := hrel
            by_cases hlt : i < L.length
            · have hc := (h.over (hB.block b hb)) i hlt
              have hx15 : L.getD i 0 ≤ 15 := getD_le L 15 hx i
              by_cases h0 : 0 < L.getD i 0
              · have hA' := (hA.cn (L.getD i 0) hx15)
                have fA := hA.fr (L.getD i 0)
                have c17 := hT.c17
                have hpl : sN L (L.getD i 0) + rk L (L.getD i 0) i < NN := by rw [HN.out]; exact place_lt L _ _ hx15 (rk_lt L i hlt (by omega))
                obtain ⟨⟨v0, hv0⟩, fv0⟩ := hV.any _ 0 hpl (by omega)
                obtain ⟨⟨v1, hv1⟩, fv1⟩ := hV.any _ 1 hpl (by omega)
                obtain ⟨⟨v2, hv2⟩, fv2⟩ := hV.any _ 2 hpl (by omega)
                have HP : Hid _ := hP.more hlt (by omega)
                have HX : Hid _ := nx_step L i h0
                rw [nxF_at L i _ h0] at hA'
                obtain ⟨x, hx0⟩ : ∃ x, x = L.getD i 0 := ⟨_, rfl⟩
                rw [← hx0] at hc hx15 h0 hA' fA hpl hv0 fv0 hv1 fv1 hv2 fv2
                have HPx : Hid (Placed L (i + 1) (fun j => if j = sN L x + rk L x i then some i else g j)) := (by rw [hx0]; exact HP.out : Placed _ _ _)
                have HXx : Hid (∀ n, n ≤ 15 → upd (nxF L i) x (sN L x + rk L x i + 1) n = nxF L (i + 1) n) := (by rw [hx0]; exact HX.out : ∀ n, n ≤ 15 → _)
                clear HP HX hx0
                obtain ⟨p, hp⟩ : ∃ p, p = sN L x + rk L x i := ⟨_, rfl⟩
                simp only [← hp] at hA' hpl hv0 fv0 hv1 fv1 hv2 fv2
                have HPp : Hid (p = sN L x + rk L x i) := hp
                clear hp
                have hAo : ∀ o : Obj, Arr (wr.alloc o) (w.heap.size + 1) 340 (nxF L i) := fun o => hA.over (alloc_old hA.lt)
                have hTo : ∀ o : Obj, Tbl (wr.alloc o) w.heap.size 343 (longest L) (cN L) (.slice (some ⟨w.heap.size + 2, 0, none⟩) NN NN) := fun o => hT.over (alloc_old hT.lt)
                have hVo : ∀ o : Obj, ValsM (wr.alloc o) (w.heap.size + 2) NN distM g := fun o => hV.over (alloc_old hV.lt)
                have hBo : ∀ o : Obj, Below w.heap.size w (wr.alloc o) := fun o => hB.alloc (Nat.le_of_lt hT.lt) _
                simp only [Nat.add_zero] at hv0 fv0
                have kA' : ∀ o : Obj, (wr.alloc o).cell? ⟨w.heap.size + 1, x, none⟩ = _ := fun o => Er.cell_alloc hA' o
                have k17 : ∀ o : Obj, (wr.alloc o).cell? ⟨w.heap.size, 17, none⟩ = _ := fun o => Er.cell_alloc c17 o
                have kv0 : ∀ o : Obj, (wr.alloc o).cell? ⟨w.heap.size + 2, p * 3, none⟩ = _ := fun o => Er.cell_alloc hv0 o
                have kv1 : ∀ o : Obj, (wr.alloc o).cell? ⟨w.heap.size + 2, p * 3 + 1, none⟩ = _ := fun o => Er.cell_alloc hv1 o
                have kv2 : ∀ o : Obj, (wr.alloc o).cell? ⟨w.heap.size + 2, p * 3 + 2, none⟩ = _ := fun o => Er.cell_alloc hv2 o
                have kf0 : ∀ o : Obj, (wr.alloc o).frozen? ⟨w.heap.size + 2, p * 3, none⟩ = false := fun o => Er.frozen_alloc hv0 o fv0
                have kf1 : ∀ o : Obj, (wr.alloc o).frozen? ⟨w.heap.size + 2, p * 3 + 1, none⟩ = false := fun o => Er.frozen_alloc hv1 o fv1
                have kf2 : ∀ o : Obj, (wr.alloc o).frozen? ⟨w.heap.size + 2, p * 3 + 2, none⟩ = false := fun o => Er.frozen_alloc hv2 o fv2
                have i400 : i ≤ 400 := by omega
                go_upto_region 19 with fail
                go_cut [] (fun wx => Tbl wx w.heap.size 343 (longest L) (cN L) (.slice (some ⟨w.heap.size + 2, 0, none⟩) NN NN) ∧ Arr wx (w.heap.size + 1) 340 (nxF L i) ∧ ValsM wx (w.heap.size + 2) NN distM (fun j => if j = p then some i else g j) ∧ Below w.heap.size w wx)
                case first =>
                  go_region_with ((go_at_call 224; refine (distM_agg i _ i400).mono ?_; rintro e w3 ⟨rfl, rfl⟩))
                  all_goals
                    go_wp2_with fail
                    go_meet
                    case rel => exact ⟨((((hTo _).over (set_other _ _ (show w.heap.size ≠ w.heap.size + 2 by omega))).over (set_other _ _ (show w.heap.size ≠ w.heap.size + 2 by omega))).over (set_other _ _ (show w.heap.size ≠ w.heap.size + 2 by omega))).drew, ((((hAo _).over (set_other _ _ (show w.heap.size + 1 ≠ w.heap.size + 2 by omega))).over (set_other _ _ (show w.heap.size + 1 ≠ w.heap.size + 2 by omega))).over (set_other _ _ (show w.heap.size + 1 ≠ w.heap.size + 2 by omega))).drew, ((hVo _).set p i hpl).drew, below_drew ((((hBo _).setCell (show w.heap.size ≤ w.heap.size + 2 by omega) _).setCell (show w.heap.size ≤ w.heap.size + 2 by omega) _).setCell (show w.heap.size ≤ w.heap.size + 2 by omega) _)⟩
                case rest =>
                  obtain ⟨hT2, hA2, hV2, hB2⟩ := hcut
                  have hA2c := hA2.cn x hx15
                  have hA2f := hA2.fr x
                  rw [nxF_at L i x h0, ← HPp.out] at hA2c
                  have hp6 : p ≤ 6400 := by omega
                  clear hTo hAo hVo hBo kA' k17 kv0 kv1 kv2 kf0 kf1 kf2 hT hA hB hV hv0 fv0 hv1 fv1 hv2 fv2 fA hA' c17 hc
                  go_wp2_with fail
                  go_roundw
                  case rel =>
                    refine ⟨i + 1, (fun j => if j = p then some i else g j), by omega, by go_num, hT2.over (set_other _ _ (by omega)), ?_, hV2.over (set_other _ _ (by omega)), ?_, hB2.setCell (show w.heap.size ≤ w.heap.size + 1 by omega) _⟩
                    · refine (hA2.set x (p + 1) hx15 _ (by omega)).congr (fun n hn => ?_)
                      rw [HPp.out]; exact HXx.out n hn
                    · rw [HPp.out]; exact HPx.out
                  case measure => simp [intOf]; omega
              · have h00 : L.getD i 0 = 0 := by omega
                have HP : Hid (Placed L (i + 1) g) := hP.none h00
                have HR : Hid (∀ n, n ≤ 15 → nxF L i n = nxF L (i + 1) n) := nx_none L i h00
                rw [h00] at hc
                go_wp2_with fail
                go_roundw
                case rel => exact ⟨i + 1, g, by omega, by go_num, hT, hA.congr (fun n hn => HR.out n hn), hV, HP.out, hB⟩
                case measure => simp [intOf]; omega
            · have hil : i = L.length := by omega
              subst hil
              have hTI : TabM wr w.heap.size distM L := by
                obtain ⟨vcur, v1, v2, v3⟩ := hV
                refine ⟨w.heap.size + 2, vcur, Tbl.hd (by rw [← HN.out]; exact hT), v1, fun j hj => ?_⟩
                exact v3 j _ (by rw [HN.out]; exact hj) (hP.all j hj)
              go_wp2_with fail
              go_ret
              exact ⟨⟨_, rfl, hTI, Nat.le_refl _⟩, hB⟩
end Go.Proofs.YtephkcdbnogdhaaGreatDoor.Pr
/- The walks of newTables and fixedTables. -/
namespace Go.Proofs.YtephkcdbnogdhaaGreatDoor.Pr
open Go.RowKit Rf
theorem TabM.keep {w w' : World} {k : Nat} {mean : Nat → Nat × Nat × Nat} {L : List Nat} (h : TabM w k mean L) (e : ∀ b, b < w.heap.size → w'.heap[b]? = w.heap[b]?) : TabM w' k mean L := by
  obtain ⟨vb, vcur, ⟨cur, a, b⟩, c, d⟩ := h
  exact ⟨vb, vcur, ⟨cur, (e k (lt_of_some a)).trans a, b⟩, (e vb (lt_of_some c)).trans c, d⟩
/-- the tables of a block, in block k: by them the lengths A of literals, B of distances -/
def TabsIs (w : World) (k : Nat) (A B : List Nat) : Prop := ∃ ka kb, w.heap[k]? = some (.cells #[.pointer (some ⟨ka, 0, none⟩), .pointer (some ⟨kb, 0, none⟩)] 318 (0, 0)) ∧ TabM w ka litM A ∧ TabM w kb distM B
theorem TabsIs.keep {w w' : World} {k : Nat} {A B : List Nat} (h : TabsIs w k A B) (e : ∀ b, b < w.heap.size → w'.heap[b]? = w.heap[b]?) : TabsIs w' k A B := by
  obtain ⟨ka, kb, h1, h2, h3⟩ := h
  exact ⟨ka, kb, (e k (lt_of_some h1)).trans h1, h2.keep e, h3.keep e⟩
set_option maxRecDepth 10000 in
set_option maxHeartbeats 4000000 in
theorem newTables_any (b o cap b2 o2 cap2 : Nat) (A B : List Nat) (w : World) (hA : BytesAt w b o A) (hb : b < w.heap.size) (hla : A.length ≤ 400) (hxa : ∀ x ∈ A, x ≤ 15) (hB : BytesAt w b2 o2 B) (hb2 : b2 < w.heap.size) (hlb : B.length ≤ 400) (hxb : ∀ x ∈ B, x ≤ 15) :
    Calls Tryz.prog 197 #[.slice (some ⟨b, o, none⟩) A.length cap, .slice (some ⟨b2, o2, none⟩) B.length cap2] w fun e w' => (∃ k, e = .returned (.pointer (some ⟨k, 0, none⟩)) ∧ TabsIs w' k A B ∧ w.heap.size ≤ k) ∧ Below w.heap.size w w' := by
  go_enter Tryz.func197, Tryz.ntmps197
  go_wp2_with fail
  refine (newL_any b o cap A _ hA hb hla hxa).mono ?_
  rintro e w1 ⟨⟨k1, rfl, hT1, hk1⟩, hB1⟩
  have hz1 := hB1.size
  go_wp2_with fail
  refine (newD_any b2 o2 cap2 B _ (hB.over (hB1.block b2 hb2)) (by omega) hlb hxb).mono ?_
  rintro e w2 ⟨⟨k2, rfl, hT2, hk2⟩, hB2⟩
  have hz2 := hB2.size
  have hT1' := hT1.keep (fun b hb => hB2.block b hb)
  go_wp2_with fail
  go_ret
  refine ⟨⟨_, rfl, ⟨k1, k2, alloc_new _ _ _ rfl, hT1'.keep (fun b hb => alloc_old hb), hT2.keep (fun b hb => alloc_old hb)⟩, by omega⟩, ?_⟩
  exact (hB1.trans (hB2.mono (by omega))).alloc (by omega) _
/-- a row of N bytes in block b -/
def RowB (w : World) (b N : Nat) (f : Nat → Nat) : Prop := ∃ cur, w.heap[b]? = some (.cells cur 5 (0, 0)) ∧ cur.size = N ∧ ∀ n, n < N → cur[n]? = some (.int .u8 ((f n : Nat) : Int))
theorem RowB.cn {w : World} {b N : Nat} {f : Nat → Nat} (h : RowB w b N f) (n : Nat) (hn : n < N) : w.cell? ⟨b, n, none⟩ = some (.int .u8 ((f n : Nat) : Int)) ∧ w.frozen? ⟨b, n, none⟩ = false := by
  obtain ⟨cur, h1, h2, h3⟩ := h; exact ⟨by rw [(cell_of h1 _).1, h3 n hn], (cell_of h1 n).2⟩
theorem RowB.lt {w : World} {b N : Nat} {f : Nat → Nat} (h : RowB w b N f) : b < w.heap.size := by
  obtain ⟨cur, h1, _⟩ := h; exact lt_of_some h1
theorem RowB.over {w w' : World} {b N : Nat} {f : Nat → Nat} (h : RowB w b N f) (e : w'.heap[b]? = w.heap[b]?) : RowB w' b N f := by
  obtain ⟨cur, h1, h2⟩ := h; exact ⟨cur, e.trans h1, h2⟩
theorem RowB.congr {w : World} {b N : Nat} {f g : Nat → Nat} (h : RowB w b N f) (e : ∀ n, n < N → f n = g n) : RowB w b N g := by
  obtain ⟨cur, h1, h2, h3⟩ := h; exact ⟨cur, h1, h2, fun n hn => by rw [h3 n hn, e n hn]⟩
theorem RowB.set {w : World} {b N : Nat} {f : Nat → Nat} (h : RowB w b N f) (n x : Nat) (hn : n < N) (X : Int) (hX : X = (x : Int)) : RowB (w.setCell ⟨b, n, none⟩ (.int .u8 X)) b N (upd f n x) := by
  obtain ⟨cur, h1, h2, h3⟩ := h
  subst hX
  refine ⟨_, set_of h1 _ _, by simpa using h2, ?_⟩
  intro m hm
  by_cases e : m = n
  · subst e; rw [Array.getElem?_setIfInBounds_self_of_lt (by omega)]; simp [upd]
  · rw [Array.getElem?_setIfInBounds_ne (by omega), h3 m hm]; simp [upd, e]
theorem RowB.bytes {w : World} {b N : Nat} {f : Nat → Nat} (h : RowB w b N f) (L : List Nat) (hl : L.length = N) (e : ∀ n, n < N → f n = L.getD n 0) : BytesAt w b 0 L := by
  intro i hi
  rw [Nat.zero_add, (h.cn i (by omega)).1, e i (by omega)]
theorem infoB : (Tryz.prog.info? 5).map (fun i => (i.zero, i.size, i.bytes)) = some (some (.int .u8 0), 1, 1) := by kernel_rfl
theorem made_byte (n j : Nat) (h : j < n) : (madeCells #[.int .u8 0] n)[j]? = some (.int .u8 ((0 : Nat) : Int)) := by
  simp [madeCells, h]
  simp [Nat.mod_one]
theorem make_bytes (W : World) (n : Nat) (hn : n ≤ 1000) : (Instr.makeSlice 45 (.int .i64 (n : Int)) (.int .i64 (n : Int))).run Tryz.prog W = .ok (.slice (some ⟨W.heap.size, 0, none⟩) n n) (W.alloc (.cells (madeCells #[.int .u8 0] n) 5)) := by
  obtain ⟨i0, hi, hz0, hz1, hz2⟩ := info_parts infoB
  have h := run_make (P := Tryz.prog) W 45 5 i0 _ Tryz.underlying45 hi hz0 .i64 .i64 (n : Int) (n : Int) (by omega) (by omega) (by rw [hz2]; omega) (by omega)
  rw [h, hz1]
  simp [Value.cells]
theorem rowB_begin (W : World) (n b : Nat) (hb : b = W.heap.size) : RowB (W.alloc (.cells (madeCells #[.int .u8 0] n) 5)) b n (fun _ => 0) :=
  ⟨_, alloc_new W _ _ hb, size_madeCells _ _, fun j hj => made_byte n j hj⟩
theorem fill_step (f : Nat → Nat) (j : Nat) : ∀ n, upd (fun n => if n < j then f n else 0) j (f j) n = if n < j + 1 then f n else 0 := by
  intro n
  unfold upd
  by_cases e : n = j
  · subst e; rw [if_pos rfl, if_pos (by omega)]
  · rw [if_neg e]
    dsimp only
    by_cases h : n < j
    · rw [if_pos h, if_pos (by omega)]
    · rw [if_neg h, if_neg (by omega)]
set_option maxRecDepth 10000 in
set_option maxHeartbeats 4000000 in
theorem fixed_any (w : World) :
    Calls Tryz.prog 171 #[] w fun e w' => (∃ k, e = .returned (.pointer (some ⟨k, 0, none⟩)) ∧ TabsIs w' k fixList (List.replicate 32 5) ∧ w.heap.size ≤ k) ∧ Below w.heap.size w w' := by
  have hmk : (Instr.makeSlice 45 (.int .i64 288) (.int .i64 288)).run Tryz.prog w = .ok (.slice (some ⟨w.heap.size, 0, none⟩) 288 288) (w.alloc (.cells (madeCells #[.int .u8 0] 288) 5)) := make_bytes w 288 (by omega)
  have hR0 := rowB_begin w 288 _ rfl
  go_enter Tryz.func171, Tryz.ntmps171
  go_wp2_with fail
  go_loopw [8] (fun iv wr => ∃ j : Nat, j ≤ 288 ∧ iv = .int .i64 (j : Int) ∧ RowB wr w.heap.size 288 (fun n => if n < j then fixLen n else 0) ∧ Below w.heap.size w wr ∧ wr.heap.size = w.heap.size + 1) (fun iv _ => 288 - (intOf iv).toNat)
  case atStart => exact ⟨0, by omega, rfl, hR0.congr (fun n _ => by simp), (Below.refl _ _).alloc (Nat.le_refl _) _, by simp⟩
  case round =>
    clear hmk hR0
    obtain ⟨j, hj, rfl, hR, hB, hz⟩ := hrel
    by_cases hlt : j < 288
    · obtain ⟨c1, c2⟩ := hR.cn j hlt
      have HF : Hid _ := fill_step fixLen j
      have HL : Hid (fixLen j = if 144 ≤ j ∧ j < 256 then 9 else if 256 ≤ j ∧ j < 280 then 7 else 8) := rfl
      have hfin : ∀ (x : Nat), fixLen j = x → RowB (wr.setCell ⟨w.heap.size, j, none⟩ (.int .u8 (x : Int))) w.heap.size 288 (fun n => if n < j + 1 then fixLen n else 0) := fun x hx =>
        (hR.set j (fixLen j) hlt _ (by rw [hx])).congr (fun n _ => HF.out n)
      by_cases h1 : j < 144
      · have d1 : decide ((j : Int) < 144) = true := decide_eq_true (by omega)
        go_wp2_with fail
        go_roundw
        case rel => exact ⟨j + 1, by omega, by go_num, hfin 8 (by rw [HL.out, if_neg (by omega), if_neg (by omega)]), hB.setCell (Nat.le_refl _) _, by simpa using hz⟩
        case measure => simp [intOf]; omega
      · have d1 : decide ((j : Int) < 144) = false := decide_eq_false (by omega)
        by_cases h2 : j < 256
        · have d2 : decide ((j : Int) < 256) = true := decide_eq_true (by omega)
          go_wp2_with fail
          go_roundw
          case rel => exact ⟨j + 1, by omega, by go_num, hfin 9 (by rw [HL.out, if_pos (by omega)]), hB.setCell (Nat.le_refl _) _, by simpa using hz⟩
          case measure => simp [intOf]; omega
        · have d2 : decide ((j : Int) < 256) = false := decide_eq_false (by omega)
          by_cases h3 : j < 280
          · have d3 : decide ((j : Int) < 280) = true := decide_eq_true (by omega)
            go_wp2_with fail
            go_roundw
            case rel => exact ⟨j + 1, by omega, by go_num, hfin 7 (by rw [HL.out, if_neg (by omega), if_pos (by omega)]), hB.setCell (Nat.le_refl _) _, by simpa using hz⟩
            case measure => simp [intOf]; omega
          · have d3 : decide ((j : Int) < 280) = false := decide_eq_false (by omega)
            go_wp2_with fail
            go_roundw
            case rel => exact ⟨j + 1, by omega, by go_num, hfin 8 (by rw [HL.out, if_neg (by omega), if_neg (by omega)]), hB.setCell (Nat.le_refl _) _, by simpa using hz⟩
            case measure => simp [intOf]; omega
    · have hj8 : j = 288 := by omega
      subst hj8
      have hmk : (Instr.makeSlice 45 (.int .i64 32) (.int .i64 32)).run Tryz.prog wr = .ok (.slice (some ⟨wr.heap.size, 0, none⟩) 32 32) (wr.alloc (.cells (madeCells #[.int .u8 0] 32) 5)) := make_bytes wr 32 (by omega)
      have hR0 := rowB_begin wr 32 (w.heap.size + 1) hz.symm
      have hR1 : RowB (wr.alloc (.cells (madeCells #[.int .u8 0] 32) 5)) w.heap.size 288 fixLen := (hR.congr (fun n hn => if_pos hn)).over (alloc_old hR.lt)
      have hB1 : Below w.heap.size w (wr.alloc (.cells (madeCells #[.int .u8 0] 32) 5)) := hB.alloc (by omega) _
      go_wp2_with fail
      go_loopw [36] (fun iv wx => ∃ j : Nat, j ≤ 32 ∧ iv = .int .i64 (j : Int) ∧ RowB wx (w.heap.size + 1) 32 (fun n => if n < j then 5 else 0) ∧ RowB wx w.heap.size 288 fixLen ∧ Below w.heap.size w wx ∧ wx.heap.size = w.heap.size + 2) (fun iv _ => 32 - (intOf iv).toNat)
      case atStart => exact ⟨0, by omega, rfl, hR0.congr (fun n _ => by simp), hR1, hB1, by simp; omega⟩
      case round =>
        clear hmk hR0 hR hR1 hB1 hB hz
        obtain ⟨j, hj, rfl, hR, hR1, hB, hz⟩ := hrel
        by_cases hlt2 : j < 32
        · obtain ⟨c1, c2⟩ := hR.cn j hlt2
          have HF : Hid _ := fill_step (fun _ => 5) j
          go_wp2_with fail
          go_roundw
          case rel => exact ⟨j + 1, by omega, by go_num, (hR.set j 5 hlt2 _ rfl).congr (fun n _ => HF.out n), hR1.over (set_other _ _ (by omega)), hB.setCell (show w.heap.size ≤ w.heap.size + 1 by omega) _, by simpa using hz⟩
          case measure => simp [intOf]; omega
        · have hj8 : j = 32 := by omega
          subst hj8
          have hA : BytesAt wr w.heap.size 0 fixList := hR1.bytes fixList (by simp [fixList]) (fun n hn => by simp [fixList, List.getD_eq_getElem?_getD, hn])
          have hD : BytesAt wr (w.heap.size + 1) 0 (List.replicate 32 5) := hR.bytes _ (by simp) (fun n hn => by
            rw [if_pos hn, List.getD_eq_getElem?_getD, List.getElem?_replicate, if_pos hn]; rfl)
          have hlen : fixList.length = 288 := by simp [fixList]
          have hlen2 : (List.replicate 32 5).length = 32 := by simp
          have hxa : ∀ x ∈ fixList, x ≤ 15 := by
            intro x hx
            simp only [fixList, List.mem_map] at hx
            obtain ⟨i, _, rfl⟩ := hx
            unfold fixLen; split <;> (try split) <;> omega
          go_wp2_with fail
          refine (newTables_any w.heap.size 0 288 (w.heap.size + 1) 0 32 fixList (List.replicate 32 5) _ hA (by omega) (by omega) hxa hD (by omega) (by omega) (fun x hx => by rw [List.eq_of_mem_replicate hx]; omega)).mono ?_
          rintro e w2 ⟨⟨k, rfl, hT, hk⟩, hB2⟩
          go_wp2_with fail
          go_ret
          exact ⟨⟨k, rfl, hT, by omega⟩, hB.trans (hB2.mono (by omega))⟩
end Go.Proofs.YtephkcdbnogdhaaGreatDoor.Pr
/- One byte more behind a row of the call's own: where the row lies then. -/
namespace Go.Proofs.YtephkcdbnogdhaaGreatDoor.Pr
open Go.RowKit Rf
open RfW (byteCells byteCells_snoc infoByte)
theorem append_where {w : World} {base : Nat} {v v' : Value} {n : Nat} {xs : List Value} {z : Int} {w' : World} (ty : TypeId) (hown : w.ownsRow base 5 1 v n xs) (a : Addr) (c : Nat) (hx : w.cell? a = some (.int .u8 z)) (hn : n ≤ 100000000)
    (hr : (Builtin.append_ #[45, 45] ty #[v, .slice (some a) 1 c]).run Tryz.prog w = .ok v' w') : ∀ k, v'.ownBlock = some k → v.ownBlock = some k ∨ w.heap.size ≤ k := by
  obtain ⟨i0, hi, hz0, hz1, hz2⟩ := info_parts infoB
  have hnews : ∀ j u, [Value.int .u8 z][j]? = some u → w.cell? (a.add j) = some u := by
    intro j u hj
    match j, hj with
    | 0, hj => simp at hj; subst hj; simpa [Addr.add] using hx
  rcases hown.2 with ⟨rfl, rfl⟩ | ⟨g, cap, cur, rfl, hbg, hg, hnc, hcm, hcs, htake⟩
  · obtain ⟨v2, w2, hr2, ho2, _⟩ := run_append_own (P := Tryz.prog) w w.heap.size 45 ty 5 i0 (.int .u8 0) 1 1 Tryz.underlying45 hi hz0 hz1 hz2 rfl (by decide) (.slice none 0 0) 0 [] (World.ownsRow_nil _ _ _ _) a 1 c [.int .u8 z] rfl hnews (by intro u hu; simp at hu; subst hu; rfl) (by unfold maxLen; omega) (by omega) (Nat.le_refl _)
    rw [hr] at hr2
    obtain ⟨rfl, rfl⟩ : v' = v2 ∧ w' = w2 := by injection hr2 with a b; exact ⟨a, b⟩
    intro k hk
    exact .inr (ho2.lt k hk).1
  · by_cases hroom : n + 1 ≤ cap
    · have hr2 := run_append_room (P := Tryz.prog) w 45 ty 5 i0 Tryz.underlying45 hi g n cap cur hg a 1 c [.int .u8 z] (by rw [hz1]; rfl) hnews (by intro u hu; simp at hu; subst hu; rfl) hroom (by rw [hz1]; simp; omega)
      rw [hr] at hr2
      obtain ⟨rfl, _⟩ : v' = _ ∧ w' = _ := by injection hr2 with a b; exact ⟨a, b⟩
      intro k hk
      exact .inl hk
    · have hr2 := run_append_grow (P := Tryz.prog) w 45 ty 5 i0 (.int .u8 0) Tryz.underlying45 hi hz0 ⟨g, 0, none⟩ n cap xs (by rw [hz1]; exact hown.1) (hown.cells (g := g) rfl) a 1 c [.int .u8 z] (by rw [hz1]; rfl) hnews (by omega) (by omega) (growslice_fits (by omega) (by rw [hz2]; omega))
      rw [hr] at hr2
      obtain ⟨rfl, _⟩ : v' = _ ∧ w' = _ := by injection hr2 with a b; exact ⟨a, b⟩
      intro k hk
      simp [Value.ownBlock] at hk
      exact .inr (by omega)
theorem append_byte2 {wr : World} {ops : Array Oper} {rest : List Oper} {o : Oper} {a : Act} {Q : Exit → Act → World → Prop} (hgd : o.guard = none) (s x : Operand)
    (ho : o.op = .call { callee := .builtin .append, args := #[s, x], argTypes := #[45, 45] }) (base : Nat) (v : Value) (n : Nat) (xs : List Value) (z : Int)
    (hown : wr.ownsRow base 5 1 v n xs) (hs : a.eval s = v) (hx : a.eval x = .slice (some ⟨wr.heap.size, 0, none⟩) 1 1) (hn : n ≤ 100000000) (hb : base ≤ wr.heap.size)
    (h : ∀ v' w', w'.ownsRow base 5 1 v' (n + 1) (xs ++ [.int .u8 z]) → (wr.alloc (.cells #[.int .u8 z] 5)).grownBy w' v.ownBlock → (∀ k, v'.ownBlock = some k → v.ownBlock = some k ∨ wr.heap.size ≤ k) → wpList Tryz.prog ops Q rest (a.put o.dst v') w') :
    wpList Tryz.prog ops Q (o :: rest) a (wr.alloc (.cells #[.int .u8 z] 5)) := by
  obtain ⟨i0, hi, hz0, hz1, hz2⟩ := info_parts infoB
  have hcell : (wr.alloc (.cells #[.int .u8 z] 5)).cell? ⟨wr.heap.size, 0, none⟩ = some (.int .u8 z) := by simp
  have hnews : ∀ j u, [Value.int .u8 z][j]? = some u → (wr.alloc (.cells #[.int .u8 z] 5)).cell? ((⟨wr.heap.size, 0, none⟩ : Addr).add j) = some u := by
    intro j u hj
    match j, hj with
    | 0, hj => simp at hj; subst hj; simp [Addr.add]
  obtain ⟨v', w', hr, h2, h3, h4⟩ := run_append_own (P := Tryz.prog) (wr.alloc (.cells #[.int .u8 z] 5)) base 45 o.type 5 i0 (.int .u8 0) 1 1 Tryz.underlying45 hi hz0 hz1 hz2 rfl (by decide) v n xs (hown.alloc _) ⟨wr.heap.size, 0, none⟩ 1 1 [.int .u8 z] rfl hnews (by intro u hu; simp at hu; subst hu; rfl) (by unfold maxLen; omega) (by omega) (by simp; omega)
  have hw := append_where o.type (hown.alloc (.cells #[.int .u8 z] 5)) ⟨wr.heap.size, 0, none⟩ 1 hcell hn hr
  refine wpList_plain hgd fun K hK => ?_
  unfold Oper.wp execOp
  simp only [ho, resolve, invoke, builtin, Sem.run_bind, Sem.run_pure, Result.andThen_ok, List.map_toArray, List.map_cons, List.map_nil, hs, hx, hr]
  exact hK _ _ (h v' w' h2 h3 (fun k hk => (hw k hk).imp id (fun h => by simp at h; omega)))
end Go.Proofs.YtephkcdbnogdhaaGreatDoor.Pr
/- The walks of strings.Builder's WriteByte and String. -/
namespace Go.Proofs.YtephkcdbnogdhaaGreatDoor.Pr
open Go.RowKit Rf
open RfW (byteCells byteCells_snoc)
/-- a Builder in block ob: its row is v, it holds these bytes -/
def BldAt (w : World) (ob base : Nat) (v : Value) (out : List UInt8) : Prop := ∃ a : Option Addr, w.heap[ob]? = some (.cells #[.pointer a, v] 78 (0, 0)) ∧ (a = none ∨ a = some ⟨ob, 0, none⟩) ∧ w.ownsRow base 5 1 v out.length (byteCells out) ∧ (out = [] → v = .slice none 0 0) ∧ base ≤ w.heap.size ∧ base ≤ ob
theorem run_NoEscape (args : Array Value) (w : World) : (callFunc 107 args).run Tryz.prog w = ((Er.ext Tryz.f107 args).run Tryz.prog w).andThen fun v w' => .ok (.value v) w' :=
  Er.ext_run Tryz.func107 (by kernel_rfl) (by kernel_rfl) (by kernel_rfl) (by kernel_rfl) args w
theorem noEscape (x : Value) (w : World) : (Er.ext Tryz.f107 #[x]).run Tryz.prog w = .ok x w := by kernel_rfl
theorem infoBld : (Tryz.prog.info? 78).map (·.size) = some 2 := by kernel_rfl
set_option maxRecDepth 100000 in
set_option maxHeartbeats 2000000 in
theorem check_new (ob : Nat) (v : Value) (w : World) (h : w.heap[ob]? = some (.cells #[.pointer none, v] 78 (0, 0))) :
    Calls Tryz.prog 75 #[.pointer (some ⟨ob, 0, none⟩)] w fun e w' => e = .returned (.tuple #[]) ∧ w' = w.setCell ⟨ob, 0, none⟩ (.pointer (some ⟨ob, 0, none⟩)) := by
  obtain ⟨j, hj, hjs⟩ := Option.map_eq_some_iff.1 infoBld
  have c0 : w.cell? ⟨ob, 0, none⟩ = some (.pointer none) := by simpa using (cell_of h 0).1
  have f0 := (cell_of h 0).2
  have hsh : w.shape? ob = some (78, 2) := by simp [World.shape?, h]
  have h1 := Lib.run_to_unsafe (P := Tryz.prog) w (src := 76) (dst := 188) ⟨ob, 0, none⟩ Tryz.underlying76 Tryz.underlying188 hj (by rw [hjs]; omega) hsh (show (0 : Nat) < 2 by omega)
  have h2 := Lib.run_from_unsafe (P := Tryz.prog) w (src := 188) (dst := 76) ⟨ob, 0, none⟩ Tryz.underlying188 Tryz.underlying76 hj hsh (by kernel_rfl)
  have r1 := run_NoEscape
  have r2 := noEscape
  have k0 : (w.setCell ⟨ob, 0, none⟩ (.pointer (some ⟨ob, 0, none⟩))).cell? ⟨ob, 0, none⟩ = some (.pointer (some ⟨ob, 0, none⟩)) := by simpa using (cell_of (set_of h 0 (.pointer (some ⟨ob, 0, none⟩))) 0).1
  have h3 := Lib.run_neq_ptr_same (P := Tryz.prog) (w.setCell ⟨ob, 0, none⟩ (.pointer (some ⟨ob, 0, none⟩))) (tp := 76) ⟨ob, 0, none⟩ Tryz.underlying76 hj
  go_enter Tryz.func75, Tryz.ntmps75
  go_wp2
  go_end0
  exact ⟨rfl, rfl⟩
set_option maxRecDepth 100000 in
set_option maxHeartbeats 2000000 in
theorem check_old (ob : Nat) (v : Value) (w : World) (h : w.heap[ob]? = some (.cells #[.pointer (some ⟨ob, 0, none⟩), v] 78 (0, 0))) :
    Calls Tryz.prog 75 #[.pointer (some ⟨ob, 0, none⟩)] w fun e w' => e = .returned (.tuple #[]) ∧ w' = w := by
  obtain ⟨j, hj, hjs⟩ := Option.map_eq_some_iff.1 infoBld
  have c0 : w.cell? ⟨ob, 0, none⟩ = some (.pointer (some ⟨ob, 0, none⟩)) := by simpa using (cell_of h 0).1
  have h3 := Lib.run_neq_ptr_same (P := Tryz.prog) w (tp := 76) ⟨ob, 0, none⟩ Tryz.underlying76 hj
  go_enter Tryz.func75, Tryz.ntmps75
  go_wp2
  go_end0
  exact ⟨rfl, rfl⟩
theorem check_any (ob : Nat) (a : Option Addr) (v : Value) (w : World) (h : w.heap[ob]? = some (.cells #[.pointer a, v] 78 (0, 0))) (ha : a = none ∨ a = some ⟨ob, 0, none⟩) :
    Calls Tryz.prog 75 #[.pointer (some ⟨ob, 0, none⟩)] w fun e w' => e = .returned (.tuple #[]) ∧ w'.heap[ob]? = some (.cells #[.pointer (some ⟨ob, 0, none⟩), v] 78 (0, 0)) ∧ RfW.Only ob w w' := by
  rcases ha with rfl | rfl
  · refine (check_new ob v w h).mono ?_
    rintro e w' ⟨rfl, rfl⟩
    refine ⟨rfl, ?_, (RfW.Only.refl ob w).setCell 0 _⟩
    exact (set_of h 0 _).trans (by simp)
  · refine (check_old ob v w h).mono ?_
    rintro e w' ⟨rfl, rfl⟩
    exact ⟨rfl, h, RfW.Only.refl ob _⟩
theorem ownsRow_over {w w' : World} {base : Nat} {v : Value} {n : Nat} {xs : List Value} (h : w.ownsRow base 5 1 v n xs) (e : ∀ k, v.ownBlock = some k → w'.heap[k]? = w.heap[k]?) : w'.ownsRow base 5 1 v n xs := by
  refine ⟨h.1, ?_⟩
  rcases h.2 with h | ⟨g, cap, cur, rfl, a, b, c⟩
  · exact .inl h
  · exact .inr ⟨g, cap, cur, rfl, a, (e g rfl).trans b, c⟩
/-- a row of bytes lies in no block of another type -/
theorem row_ne {w : World} {base : Nat} {v : Value} {n : Nat} {xs : List Value} (h : w.ownsRow base 5 1 v n xs) {k : Nat} {cur : Array Value} {T : TypeId} {f : Nat × Nat} (hk : w.heap[k]? = some (.cells cur T f)) (hT : T ≠ 5) : v.ownBlock ≠ some k := by
  rcases h.2 with ⟨rfl, _⟩ | ⟨g, cap, cu, rfl, _, b, _⟩
  · simp [Value.ownBlock]
  · intro e
    simp [Value.ownBlock] at e
    subst e
    rw [b] at hk
    simp at hk
    exact hT hk.2.1.symm
set_option maxRecDepth 10000 in
set_option maxHeartbeats 2000000 in
theorem write_any (ob base : Nat) (v : Value) (out : List UInt8) (x : UInt8) (w : World) (h : BldAt w ob base v out) (hl : out.length ≤ 100000000) :
    Calls Tryz.prog 41 #[.pointer (some ⟨ob, 0, none⟩), .int .u8 ((x.toNat : Nat) : Int)] w fun e w' => e = .returned .nilIface ∧ ∃ v', BldAt w' ob base v' (out ++ [x]) ∧ Fr (fun k => k = ob ∨ v.ownBlock = some k) w w' ∧ (∀ k, v'.ownBlock = some k → v.ownBlock = some k ∨ w.heap.size ≤ k) := by
  obtain ⟨a, h1, h2, h3, h4, h5, h6⟩ := h
  have hnb : v.ownBlock ≠ some ob := row_ne h3 h1 (by decide)
  have hfin : ∀ (w1 : World) (v' : Value) (w2 : World), w1.heap[ob]? = some (.cells #[.pointer (some ⟨ob, 0, none⟩), v] 78 (0, 0)) → RfW.Only ob w w1 → w2.ownsRow base 5 1 v' (out.length + 1) (byteCells out ++ [.int .u8 ((x.toNat : Nat) : Int)]) → (w1.alloc (.cells #[.int .u8 ((x.toNat : Nat) : Int)] 5)).grownBy w2 v.ownBlock → (∀ k, v'.ownBlock = some k → v.ownBlock = some k ∨ w1.heap.size ≤ k) →
      BldAt (w2.setCell ⟨ob, 1, none⟩ v') ob base v' (out ++ [x]) ∧ Fr (fun k => k = ob ∨ v.ownBlock = some k) w (w2.setCell ⟨ob, 1, none⟩ v') ∧ (∀ k, v'.ownBlock = some k → v.ownBlock = some k ∨ w.heap.size ≤ k) := by
    intro w1 v' w2 g1 g2 hown' hg hw
    have hsz : w1.heap.size = w.heap.size := g2.size
    have hs2 : w1.heap.size + 1 ≤ w2.heap.size := by have := hg.size; simpa using this
    have hold : ∀ k, k < w.heap.size → k ≠ ob → v.ownBlock ≠ some k → w2.heap[k]? = w.heap[k]? := fun k hk h1 h2 =>
      ((hg.block k (by simp; omega) (fun e => h2 e.symm)).trans (Below.heap_alloc w1 _ k (by omega))).trans (g2.block k h1)
    have hob : w2.heap[ob]? = some (.cells #[.pointer (some ⟨ob, 0, none⟩), v] 78 (0, 0)) :=
      ((hg.block ob (by have := lt_of_some g1; simp; omega) (Ne.symm hnb)).trans (Below.heap_alloc w1 _ ob (lt_of_some g1))).trans g1
    refine ⟨⟨some ⟨ob, 0, none⟩, ?_, .inr rfl, ?_, ?_, by simp; omega, h6⟩, ⟨?_, ?_, ?_, by simp; omega, ?_⟩, fun k hk => by rw [← hsz]; exact hw k hk⟩
    · exact (set_of hob 1 v').trans (by simp)
    · rw [List.length_append, byteCells_snoc]
      exact ownsRow_over hown' (fun k hk => set_other 1 v' (fun e => row_ne hown' hob (by decide) (e ▸ hk)))
    · intro e; simp at e
    · exact hg.os.trans g2.os
    · exact hg.tape.trans g2.tape
    · exact hg.output.trans g2.output
    · intro k hk hS
      exact (set_other 1 v' (fun e => hS (.inl e))).trans (hold k hk (fun e => hS (.inl e)) (fun e => hS (.inr e)))
  have hown0 := h3
  rcases h3.2 with ⟨rfl, hv⟩ | ⟨g, cap, cur, rfl, hv⟩
  · go_enter Tryz.func41, Tryz.ntmps41
    go_wp2_with fail
    refine (check_any ob a _ w h1 h2).mono ?_
    rintro e w1 ⟨rfl, g1, g2⟩
    have hb1 : base ≤ w1.heap.size := by rw [g2.size]; exact h5
    have o1 : w1.ownsRow base 5 1 (.slice none 0 0) out.length (byteCells out) := ownsRow_over h3 (fun k hk => by simp [Value.ownBlock] at hk)
    have c1 : w1.cell? ⟨ob, 1, none⟩ = some (.slice none 0 0) := by simpa using (cell_of g1 1).1
    go_wp2_with (first
      | (at_builtin; refine append_byte2 rfl _ _ rfl base _ out.length (byteCells out) ((x.toNat : Nat) : Int) o1 rfl rfl hl hb1 ?_; go_must (intro v' w2 hown' hg hw; obtain ⟨g', cap', rfl⟩ := RfW.own_shape hown'; have hgu := RfW.grown_cell hg g1 (by simp [Value.ownBlock]); have hgf := hgu.2 1; have hgc : w2.cell? ⟨ob, 1, none⟩ = some (.slice none 0 0) := by simpa using (cell_of hgu.1 1).1))
      | go_in)
    go_ret
    have hl0 : out.length + 1 = 1 := by have : out.length = 0 := hv; omega
    have hown2 : w2.ownsRow base 5 1 (.slice (some ⟨g', 0, none⟩) 1 cap') (out.length + 1) (byteCells out ++ [.int .u8 ((x.toNat : Nat) : Int)]) := by
      rw [hl0] at hown' ⊢; exact hown'
    exact ⟨rfl, _, hfin w1 _ w2 g1 g2 hown2 hg (by rw [hl0] at hw; exact hw)⟩
  · go_enter Tryz.func41, Tryz.ntmps41
    go_wp2_with fail
    refine (check_any ob a _ w h1 h2).mono ?_
    rintro e w1 ⟨rfl, g1, g2⟩
    have hb1 : base ≤ w1.heap.size := by rw [g2.size]; exact h5
    have hgo : g ≠ ob := fun e => hnb (by rw [← e]; rfl)
    have o1 : w1.ownsRow base 5 1 (.slice (some ⟨g, 0, none⟩) out.length cap) out.length (byteCells out) := ownsRow_over h3 (fun k hk => g2.block k (fun e => hnb (e ▸ hk)))
    have c1 : w1.cell? ⟨ob, 1, none⟩ = some (.slice (some ⟨g, 0, none⟩) out.length cap) := by simpa using (cell_of g1 1).1
    go_wp2_with (first
      | (at_builtin; refine append_byte2 rfl _ _ rfl base _ out.length (byteCells out) ((x.toNat : Nat) : Int) o1 rfl rfl hl hb1 ?_; go_must (intro v' w2 hown' hg hw; obtain ⟨g', cap', rfl⟩ := RfW.own_shape hown'; have hgu := RfW.grown_cell hg g1 (by simp [Value.ownBlock]; exact Ne.symm hgo); have hgf := hgu.2 1; have hgc : w2.cell? ⟨ob, 1, none⟩ = some (.slice (some ⟨g, 0, none⟩) out.length cap) := by simpa using (cell_of hgu.1 1).1))
      | go_in)
    go_ret
    exact ⟨rfl, _, hfin w1 _ w2 g1 g2 hown' hg hw⟩
theorem cellsByte : Tryz.prog.cellsOf 5 = 1 := by kernel_rfl
set_option maxRecDepth 10000 in
set_option maxHeartbeats 2000000 in
theorem string_any (ob base : Nat) (v : Value) (out : List UInt8) (w : World) (h : BldAt w ob base v out) :
    Calls Tryz.prog 43 #[.pointer (some ⟨ob, 0, none⟩)] w fun e w' => e = .returned (.string ⟨out.toArray⟩) ∧ Below base w w' := by
  obtain ⟨a, h1, h2, h3, h4, h5, h6⟩ := h
  by_cases h0 : out = []
  · have hv := h4 h0
    subst hv
    have c1 : w.drew.cell? ⟨ob, 1, none⟩ = some (.slice none 0 0) := by simpa using (cell_of h1 1).1
    have hSD : (Builtin.unsafeSliceData_ #[45] 146 #[.slice none 0 0]).run Tryz.prog w.drew = .ok (.pointer none) w.drew := rfl
    have hUS := Lib.run_unsafeString_none (P := Tryz.prog) w.drew 146 3 9 none
    go_enter Tryz.func43, Tryz.ntmps43
    go_wp2
    go_region
    all_goals (go_wp2; go_ret; exact ⟨by rw [h0]; rfl, Below.drew (Below.refl base w)⟩)
  · have hl0 : out.length ≠ 0 := by simpa using h0
    obtain ⟨g, cap, cur, rfl, hbg, hg, hnc, hcm, hcs, htake⟩ : ∃ g cap cur, v = .slice (some ⟨g, 0, none⟩) out.length cap ∧ base ≤ g ∧ w.heap[g]? = some (.cells cur 5 (0, 0)) ∧ out.length ≤ cap ∧ cap ≤ maxLen ∧ cur.size = cap * 1 ∧ cur.toList.take (out.length * 1) = byteCells out := by
      rcases h3.2 with ⟨_, hz⟩ | ⟨g, cap, cur, hv, r⟩
      · exact absurd hz hl0
      · exact ⟨g, cap, cur, hv, r⟩
    have c1 : w.drew.cell? ⟨ob, 1, none⟩ = some (.slice (some ⟨g, 0, none⟩) out.length cap) := by simpa using (cell_of h1 1).1
    have hSD : (Builtin.unsafeSliceData_ #[45] 146 #[.slice (some ⟨g, 0, none⟩) out.length cap]).run Tryz.prog w.drew = .ok (.pointer (some ⟨g, 0, none⟩)) w.drew := Lib.run_unsafeSliceData_row _ _ _ _ _ _ (by omega)
    have hUS : (Builtin.unsafeString_ #[146, 3] 9 #[.pointer (some ⟨g, 0, none⟩), .int .i64 out.length]).run Tryz.prog w.drew = .ok (.string ⟨out.toArray⟩) (w.drew.freeze ⟨g, 0, none⟩ out.length) := by
      refine Lib.run_unsafeString_row w.drew 146 3 9 5 Tryz.underlying146 cellsByte g cur.size (by have hg' : w.drew.heap[g]? = some (.cells cur 5 (0, 0)) := hg; simp [World.shape?, hg']) out h0 (by omega) (by unfold maxLen at hcm; omega) ?_
      intro j x hx
      have := h3.cells (g := g) rfl j (.int .u8 x.toNat) (by simp [byteCells, hx])
      exact this
    go_enter Tryz.func43, Tryz.ntmps43
    go_wp2
    go_region
    all_goals (go_wp2; go_ret; exact ⟨rfl, Lib.below_freeze (Below.drew (Below.refl base w)) (p := ⟨g, 0, none⟩) hbg _⟩)
end Go.Proofs.YtephkcdbnogdhaaGreatDoor.Pr
/- The ring of the last bytes: what it holds; the walks of New, Add and Back. -/
namespace Go.Proofs.YtephkcdbnogdhaaGreatDoor.Pr
open Go.RowKit Rf
open RfW (byteCells byteCells_snoc)
/-- which byte lies at place j of a ring -/
def idxR (n win j : Nat) : Nat := n - 1 - (n - 1 - j) % win
def ringCells (out : List UInt8) (win : Nat) : List Value := (List.range (min out.length win)).map fun j => .int .u8 (((out.getD (idxR out.length win j) 0).toNat : Nat) : Int)
theorem ringCells_len (out : List UInt8) (win : Nat) : (ringCells out win).length = min out.length win := by simp [ringCells]
theorem ringCells_few (out : List UInt8) (win : Nat) (h : out.length ≤ win) : ringCells out win = byteCells out := by
  apply List.ext_getElem?
  intro j
  unfold ringCells byteCells
  by_cases hj : j < out.length
  · have e : idxR out.length win j = j := by unfold idxR; rw [Nat.mod_eq_of_lt (by omega)]; omega
    rw [List.getElem?_map, List.getElem?_range (by omega), List.getElem?_map, List.getElem?_eq_getElem hj]
    simp [e, List.getD, List.getElem?_eq_getElem hj]
  · rw [List.getElem?_eq_none (by simp; omega), List.getElem?_eq_none (by simp; omega)]
theorem idxR_new (n win j : Nat) (hw : 1 ≤ win) (hj : j < win) (hn : win ≤ n) : idxR (n + 1) win j = if j = n % win then n else idxR n win j := by
  unfold idxR
  rw [show n + 1 - 1 - j = n - j by omega, show n + 1 - 1 = n by omega]
  by_cases e : j = n % win
  · rw [if_pos e]
    have h1 : (n - j) % win = 0 := by
      have h2 := Nat.div_add_mod n win
      have h3 : n - j = win * (n / win) := by omega
      rw [h3]; exact Nat.mul_mod_right _ _
    omega
  · rw [if_neg e]
    have h1 : (n - j) % win ≠ 0 := by
      intro h
      apply e
      have h2 := Nat.div_add_mod (n - j) win
      rw [h] at h2
      have h3 : n = j + win * ((n - j) / win) := by omega
      rw [h3, Nat.add_mul_mod_self_left, Nat.mod_eq_of_lt hj]
    have h4 : (n - j - 1) % win = (n - j) % win - 1 := by
      have h5 : n - j = (n - j - 1) + 1 := by omega
      have h6 : (n - j) % win = ((n - j - 1) % win + 1) % win := by rw [h5]; simp [Nat.add_mod]
      have h7 := Nat.mod_lt (n - j - 1) (show 0 < win by omega)
      by_cases h8 : (n - j - 1) % win + 1 = win
      · rw [h8, Nat.mod_self] at h6; omega
      · rw [Nat.mod_eq_of_lt (show (n - j - 1) % win + 1 < win by omega)] at h6; omega
    rw [show n - 1 - j = n - j - 1 by omega, h4]
    have h9 := Nat.mod_lt (n - j) (show 0 < win by omega)
    omega
theorem ringCells_full (out : List UInt8) (x : UInt8) (win : Nat) (hw : 1 ≤ win) (h : win ≤ out.length) : ringCells (out ++ [x]) win = (ringCells out win).set (out.length % win) (.int .u8 ((x.toNat : Nat) : Int)) := by
  apply List.ext_getElem?
  intro j
  have hm := Nat.mod_lt out.length (show 0 < win by omega)
  unfold ringCells
  by_cases hj : j < win
  · rw [List.getElem?_map, List.getElem?_range (by simp; omega), List.getElem?_set]
    have e := idxR_new out.length win j hw hj h
    rw [List.length_append, List.length_singleton]
    simp only [Option.map_some, e]
    by_cases ej : j = out.length % win
    · rw [if_pos ej, if_pos ej.symm, if_pos (by simp; omega)]
      simp
    · rw [if_neg ej, if_neg (fun h => ej h.symm), List.getElem?_map, List.getElem?_range (by omega)]
      have hi : idxR out.length win j < out.length := by unfold idxR; omega
      simp [List.getD, List.getElem?_append_left hi]
  · rw [List.getElem?_eq_none (by simp; omega), List.getElem?_eq_none (by simp; omega)]
/-- the byte so far back -/
def atR (n win d : Nat) : Nat := if d ≤ n % win then n % win - d else n % win + min n win - d
theorem ring_back (out : List UInt8) (win d : Nat) (hw : 1 ≤ win) (h1 : 1 ≤ d) (h2 : d ≤ min out.length win) : (ringCells out win)[atR out.length win d]? = some (.int .u8 (((out.getD (out.length - d) 0).toNat : Nat) : Int)) ∧ atR out.length win d < min out.length win := by
  have hm := Nat.mod_lt out.length (show 0 < win by omega)
  have hd := Nat.div_add_mod out.length win
  generalize hN : out.length = n at *
  have key : atR n win d < min n win ∧ idxR n win (atR n win d) = n - d := by
    by_cases hf : n < win
    · have e : n % win = n := Nat.mod_eq_of_lt hf
      unfold atR idxR
      rw [e, if_pos (by omega)]
      refine ⟨by omega, ?_⟩
      rw [show n - 1 - (n - d) = d - 1 by omega, Nat.mod_eq_of_lt (by omega)]; omega
    · have hlt : atR n win d < win := by unfold atR; split <;> omega
      refine ⟨by omega, ?_⟩
      unfold idxR
      have e : (n - 1 - atR n win d) % win = d - 1 := by
        unfold atR
        generalize n / win = q at *
        split
        · rename_i hle
          rw [show n - 1 - (n % win - d) = d - 1 + win * q by omega, Nat.add_mul_mod_self_left, Nat.mod_eq_of_lt (by omega)]
        · rename_i hle
          have hq : 1 ≤ q := by
            rcases Nat.eq_zero_or_pos q with h0 | h0
            · subst h0; omega
            · exact h0
          have hq2 : win * q = win + win * (q - 1) := by
            have e1 : q = (q - 1) + 1 := by omega
            have e2 : win * ((q - 1) + 1) = win * (q - 1) + win := Nat.mul_succ win (q - 1)
            rw [← e1] at e2; omega
          rw [show n - 1 - (n % win + min n win - d) = d - 1 + win * (q - 1) by omega, Nat.add_mul_mod_self_left, Nat.mod_eq_of_lt (by omega)]
      rw [e]; omega
  refine ⟨?_, key.1⟩
  unfold ringCells
  rw [List.getElem?_map, List.getElem?_range (by rw [hN]; exact key.1)]
  simp only [Option.map_some, hN, key.2]
/-- a ring in block gb: its row is v, it is of size win, these bytes were added -/
def RingAt (w : World) (gb base : Nat) (v : Value) (win : Nat) (out : List UInt8) : Prop := w.heap[gb]? = some (.cells #[.int .i64 (win : Int), v, .int .i64 ((out.length % win : Nat) : Int)] 231 (0, 0)) ∧ w.ownsRow base 5 1 v (min out.length win) (ringCells out win) ∧ base ≤ w.heap.size
set_option maxRecDepth 10000 in
set_option maxHeartbeats 2000000 in
theorem ringNew_any (win : Nat) (w : World) :
    Calls Tryz.prog 104 #[.int .i64 (win : Int)] w fun e w' => e = .returned (.pointer (some ⟨w.heap.size, 0, none⟩)) ∧ w' = w.alloc (.cells #[.int .i64 (win : Int), .slice none 0 0, .int .i64 0] 231) := by
  go_enter Tryz.func104, Tryz.ntmps104
  go_wp2
  go_ret
  exact ⟨rfl, rfl⟩
set_option maxRecDepth 10000 in
set_option maxHeartbeats 2000000 in
theorem back_none (gb base : Nat) (v : Value) (win d : Nat) (out : List UInt8) (w : World) (h : RingAt w gb base v win out) (hw : 1 ≤ win) (hw2 : win ≤ 32768) (h1 : 1 ≤ d) (hd : d ≤ 1000000) (h2 : ¬ d ≤ min out.length win) :
    Calls Tryz.prog 227 #[.pointer (some ⟨gb, 0, none⟩), .int .i64 (d : Int)] w fun e w' => e = .returned (.tuple #[.int .u8 0, .bool false]) ∧ w' = w := by
  obtain ⟨hb, hown, hbase⟩ := h
  have c1 : w.cell? ⟨gb, 1, none⟩ = some v := by simpa using (cell_of hb 1).1
  have d1 : decide ((d : Int) < 1) = false := decide_eq_false (by omega)
  have hml : min out.length win ≤ 32768 := by omega
  generalize min out.length win = mm at *
  rcases hown.2 with ⟨rfl, hv⟩ | ⟨g, cap, cur, rfl, hv⟩
  · have d2 : decide ((0 : Int) < (d : Int)) = true := decide_eq_true (by omega)
    go_enter Tryz.func227, Tryz.ntmps227
    go_wp2
    go_ret2
    exact ⟨rfl, rfl⟩
  · have d2 : decide ((mm : Int) < (d : Int)) = true := decide_eq_true (by omega)
    go_enter Tryz.func227, Tryz.ntmps227
    go_wp2
    go_ret2
    exact ⟨rfl, rfl⟩
set_option maxRecDepth 10000 in
set_option maxHeartbeats 2000000 in
theorem back_some (gb base : Nat) (v : Value) (win d : Nat) (out : List UInt8) (w : World) (h : RingAt w gb base v win out) (hw : 1 ≤ win) (hw2 : win ≤ 32768) (h1 : 1 ≤ d) (h2 : d ≤ min out.length win) :
    Calls Tryz.prog 227 #[.pointer (some ⟨gb, 0, none⟩), .int .i64 (d : Int)] w fun e w' => e = .returned (.tuple #[.int .u8 (((out.getD (out.length - d) 0).toNat : Nat) : Int), .bool true]) ∧ w' = w := by
  obtain ⟨hb, hown, hbase⟩ := h
  have c1 : w.cell? ⟨gb, 1, none⟩ = some v := by simpa using (cell_of hb 1).1
  have c2 : w.cell? ⟨gb, 2, none⟩ = some (.int .i64 ((out.length % win : Nat) : Int)) := by simpa using (cell_of hb 2).1
  have d1 : decide ((d : Int) < 1) = false := decide_eq_false (by omega)
  have hml : min out.length win ≤ 32768 := by omega
  obtain ⟨hr1, hr2⟩ := ring_back out win d hw h1 h2
  have hml2 : out.length % win ≤ 32768 := by have := Nat.mod_lt out.length (show 0 < win by omega); omega
  obtain ⟨g, cap, rfl⟩ : ∃ g cap, v = .slice (some ⟨g, 0, none⟩) (min out.length win) cap := by
    rcases hown.2 with ⟨_, hv⟩ | ⟨g, cap, cur, rfl, hv⟩
    · omega
    · exact ⟨g, cap, rfl⟩
  have hcell : w.cell? ⟨g, atR out.length win d, none⟩ = _ := (hown.cellAt _ (by omega)).trans hr1
  have HA : Hid (atR out.length win d = if d ≤ out.length % win then out.length % win - d else out.length % win + min out.length win - d) := rfl
  generalize atR out.length win d = p at *
  generalize min out.length win = mm at *
  generalize out.length % win = nx at *
  generalize ((out.getD (out.length - d) 0).toNat : Nat) = by0 at *
  have d2 : decide ((mm : Int) < (d : Int)) = false := decide_eq_false (by omega)
  by_cases hle : d ≤ nx
  · have hp : (nx : Int) - (d : Int) = (p : Int) := by have := HA.out; rw [if_pos hle] at this; omega
    go_enter Tryz.func227, Tryz.ntmps227
    go_wp2
    go_ret2
    exact ⟨rfl, rfl⟩
  · have hp : (nx : Int) - (d : Int) + (mm : Int) = (p : Int) := by have := HA.out; rw [if_neg hle] at this; omega
    have hn0 : (nx : Int) - (d : Int) < 0 := by omega
    go_enter Tryz.func227, Tryz.ntmps227
    go_wp2
    go_ret2
    exact ⟨rfl, rfl⟩
end Go.Proofs.YtephkcdbnogdhaaGreatDoor.Pr
