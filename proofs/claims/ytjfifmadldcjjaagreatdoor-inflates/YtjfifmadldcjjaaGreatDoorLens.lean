/- The walk of readLengths. -/
import Derived.Test.YtjfifmadldcjjaaGreatDoorRun
set_option linter.unusedVariables false
namespace Go.Proofs.YtjfifmadldcjjaaGreatDoor.Pr
open Go.RowKit Rf
/-- lengths as cells -/
def lenCells (L : List Nat) : List Value := L.map fun x => .int .u8 ((x : Nat) : Int)
theorem lenCells_snoc (L : List Nat) (x : Nat) : lenCells (L ++ [x]) = lenCells L ++ [.int .u8 ((x : Nat) : Int)] := by simp [lenCells]
theorem lensF_step_bad (s : ByteArray) (N : Nat) (cs : List (Nat × List UInt8)) (f : Nat) (L : List Nat) (p : Nat) (h : L.length < N) (hb : lsBad (lenStep s L (symT s cs ⟨p, false⟩).1 (symT s cs ⟨p, false⟩).2)) : (lensF s N cs (f + 1) L ⟨p, false⟩).2.bad = true := by
  cases e : lenStep s L (symT s cs ⟨p, false⟩).1 (symT s cs ⟨p, false⟩).2 with
  | inl r =>
    obtain ⟨v, k, st'⟩ := r
    rw [e] at hb
    rw [lensF_go s N cs f L _ h rfl v k st' e, lensF_bad _ _ _ _ _ _ hb]; exact hb
  | inr st' =>
    rw [e] at hb
    rw [lensF_stop s N cs f L _ h rfl st' e]; exact hb
theorem lensF_sym_bad (s : ByteArray) (N : Nat) (cs : List (Nat × List UInt8)) (f : Nat) (L : List Nat) (p : Nat) (h : L.length < N) (hb : (symT s cs ⟨p, false⟩).2.bad = true) : (lensF s N cs (f + 1) L ⟨p, false⟩).2.bad = true := by
  apply lensF_step_bad s N cs f L p h
  rw [symT_zero s cs _ hb]
  unfold lenStep
  rw [if_neg (by omega), if_neg (by omega), if_neg (by omega)]
  exact hb
theorem rf_grown {tb rb g : Nat} {w wr w2 : World} {o : Obj} (hf : RF tb rb w wr) (hg : (wr.alloc o).grownBy w2 (some g)) (h : w.heap.size ≤ g) : RF tb rb w w2 :=
  ⟨hg.os.trans hf.os, hg.tape.trans hf.tape, hg.output.trans hf.output, by have := hg.size; have := hf.size; simp at *; omega, fun k hk h1 h2 => (hg.block k (by have := hf.size; simp; omega) (by intro e; injection e with e; omega)).trans ((alloc_old (by have := hf.size; omega)).trans (hf.block k hk h1 h2))⟩
theorem rd_grown {tb rb g : Nat} {wr w2 : World} {o : Obj} {s : ByteArray} {p : Nat} (h : Rd wr tb rb s p) (hg : (wr.alloc o).grownBy w2 (some g)) (h1 : g ≠ tb) (h2 : g ≠ rb) : Rd w2 tb rb s p := by
  have hl := h.lts
  obtain ⟨c, hc, hq⟩ := h
  refine ⟨c, hc, hq.over ((hg.block _ (by simp; omega) (by intro e; injection e with e; exact h1 e.symm)).trans (alloc_old hl.1)) ((hg.block _ (by simp; omega) (by intro e; injection e with e; exact h2 e.symm)).trans (alloc_old hl.2))⟩
set_option maxRecDepth 10000 in
set_option maxHeartbeats 8000000 in
theorem lens_any (tb rb : Nat) (eb : Addr) (kt : Nat) (s : ByteArray) (pos N : Nat) (SM : List Nat) (w : World) (h : Rd w tb rb s pos) (hend : EndIs w eb) (hT : TabI w kt SM) (hl19 : SM.length = 19) (hx : ∀ x ∈ SM, x ≤ 15) (hK : kN SM 16 ≤ 32768) (hs : s.size ≤ 140737488351232) (hg1 : 0 ≠ tb) (hg2 : 0 ≠ rb) (hN : N ≤ 320) :
    Calls Tryz.prog 80 #[.pointer (some ⟨rb, 0, none⟩), .pointer (some ⟨kt, 0, none⟩), .int .i64 (N : Int)] w fun e w' =>
      (∃ L p g cap, lensF s N (codesT SM).cs (N + 1) [] ⟨pos, false⟩ = (L, ⟨p, false⟩) ∧ L.length = N ∧ (∀ x ∈ L, x ≤ 15) ∧ e = .returned (.tuple #[.slice (some ⟨g, 0, none⟩) N cap, .nilIface]) ∧ w'.ownsRow w.heap.size 5 1 (.slice (some ⟨g, 0, none⟩) N cap) N (lenCells L) ∧ Rd w' tb rb s p ∧ RF tb rb w w') ∨
      (((lensF s N (codesT SM).cs (N + 1) [] ⟨pos, false⟩).2.bad = true ∨ (lensF s N (codesT SM).cs (N + 1) [] ⟨pos, false⟩).1.length ≠ N) ∧ (∃ a, e = .returned (.tuple #[.slice none 0 0, .iface 62 (.pointer (some a))])) ∧ RdE w' tb rb s ∧ RF tb rb w w') := by
  obtain ⟨i0, hi, hz0, hz1, hz2⟩ := info_parts infoB
  have hmk : (Instr.makeSlice 30 (.int .i64 0) (.int .i64 (N : Int))).run Tryz.prog w = .ok (.slice (some ⟨w.heap.size, 0, none⟩) 0 N) (w.alloc (.cells (madeCells #[.int .u8 0] N) 5)) := by
    have h := run_make (P := Tryz.prog) w 30 5 i0 _ Tryz.underlying30 hi hz0 .i64 .i64 0 (N : Int) (by omega) (by omega) (by rw [hz2]; omega) (by omega)
    rw [h, hz1]
    simp [Value.cells]
  clear hi hz0 hz1 hz2
  have hlt := h.lts
  have hO0 : (w.alloc (.cells (madeCells #[.int .u8 0] N) 5)).ownsRow w.heap.size 5 1 (.slice (some ⟨w.heap.size, 0, none⟩) 0 N) 0 [] := ⟨rfl, .inr ⟨w.heap.size, N, _, rfl, Nat.le_refl _, alloc_new w _ _ rfl, Nat.zero_le _, by unfold maxLen; omega, by rw [size_madeCells]; omega, by simp⟩⟩
  obtain ⟨R, hR0⟩ : ∃ R, R = lensF s N (codesT SM).cs (N + 1) [] ⟨pos, false⟩ := ⟨_, rfl⟩
  rw [← hR0]
  have HR0 : Hid _ := hR0
  clear hR0
  go_enter Tryz.func80, Tryz.ntmps80
  go_wp2_with fail
  go_loopw [8] (fun v wr => ∃ (f p g cap : Nat) (L : List Nat), R = lensF s N (codesT SM).cs f L ⟨p, false⟩ ∧ N - L.length < f ∧ L.length ≤ N ∧ (∀ x ∈ L, x ≤ 15) ∧ v = .slice (some ⟨g, 0, none⟩) L.length cap ∧ wr.ownsRow w.heap.size 5 1 v L.length (lenCells L) ∧ Rd wr tb rb s p ∧ RF tb rb w wr) (fun v _ => match v with | .slice _ n _ => N - n | _ => 0)
  case atStart => exact ⟨N + 1, pos, w.heap.size, N, [], HR0.out, by simp, Nat.zero_le _, by simp, rfl, hO0, h.alloc _, (RF.refl _ _ w).alloc _⟩
  case round =>
    clear hmk hO0
    obtain ⟨f, p, g, cap, L, hR, hf, hLN, hLx, rfl, hown, hRd, hF⟩ := hrel
    have HR : Hid _ := hR
    clear hR
    have hgb := hown.lt g rfl
    have hgt : g ≠ tb ∧ g ≠ rb := by omega
    have hend1 : EndIs wr eb := hend.over (hF.block _ hend.lt hg1 hg2)
    have hT1 : TabI wr kt SM := hT.over h hF
    by_cases hlt2 : L.length < N
    · obtain ⟨f', hf'⟩ : ∃ f', f = f' + 1 := ⟨f - 1, by omega⟩
      subst hf'
      go_wp2_with fail
      refine (readI_any kt tb rb eb SM s p _ hT1 hRd hend1 hs (by omega) hx hK hg1 hg2).mono ?_
      rintro e w1 (⟨y, p1, k1, rfl, k2, k3, k4⟩ | ⟨k1, ⟨a, rfl⟩, k2, k3⟩)
      rotate_left
      · go_wp2_with fail
        go_ret2
        exact .inr ⟨.inl (by rw [HR.out]; exact lensF_sym_bad s N _ _ L p hlt2 k1), ⟨a, rfl⟩, k2, hF.trans k3⟩
      have hy : y < 19 := by have := symT_sym s SM ⟨p, false⟩ (by omega); rw [k1] at this; omega
      have K1 : Hid _ := k1
      have hown1 : w1.ownsRow w.heap.size 5 1 (.slice (some ⟨g, 0, none⟩) L.length cap) L.length (lenCells L) := ownsRow_over hown (fun k hk => by
        simp [Value.ownBlock] at hk; subst hk; exact k3.block _ hgb.2 hgt.1 hgt.2)
      have hend2 : EndIs w1 eb := hend1.over (k3.block _ hend1.lt hg1 hg2)
      have hlast : 0 < L.length → w1.cell? ⟨g, L.length - 1, none⟩ = some (.int .u8 ((L.getD (L.length - 1) 0 : Nat) : Int)) := fun h0 => by
        rw [hown1.cellAt (L.length - 1) (by omega)]
        simp [lenCells, List.getD_eq_getElem?_getD, List.getElem?_eq_getElem (show L.length - 1 < L.length by omega)]
      clear k1
      go_wp2_with fail
      refine (run_any tb rb eb s p1 y g cap L _ k2 hend2 hs hg1 hg2 (by omega) (by omega) hLx hlast).mono ?_
      rintro e w2 (⟨v, k, p2, r1, r2, r3, r4, rfl, r5, r6⟩ | ⟨r1, ⟨x, n, a, rfl⟩, r3, r4⟩)
      rotate_left
      · clear hlast
        go_wp2_with fail
        go_ret2
        refine .inr ⟨.inl ?_, ⟨a, rfl⟩, r3, (hF.trans k3).trans r4⟩
        rw [HR.out]
        refine lensF_step_bad s N _ _ L p hlt2 ?_
        rw [K1.out]
        exact r1
      have HR2 : Hid (R = lensF s N (codesT SM).cs f' (L ++ List.replicate k v) ⟨p2, false⟩) := (by
        rw [HR.out]
        exact lensF_go s N _ f' L _ hlt2 rfl v k ⟨p2, false⟩ (by rw [K1.out]; exact r1) : _ = _)
      have hown2 : w2.ownsRow w.heap.size 5 1 (.slice (some ⟨g, 0, none⟩) L.length cap) L.length (lenCells L) := ownsRow_over hown1 (fun k hk => by
        simp [Value.ownBlock] at hk; subst hk; exact r6.block _ (by rw [k4]; exact hgb.2) hgt.1 hgt.2)
      have hF2 := (hF.trans k3).trans r6
      clear hlast r1 hown hown1
      have hLi : (L.length : Int) ≤ 400 := by omega
      have hki : (k : Int) ≤ 200 := by omega
      by_cases hkk : k ≤ N - L.length
      rotate_left
      · have d1 : decide ((N : Int) - (L.length : Int) < (k : Int)) = true := decide_eq_true (by omega)
        have HB : Hid (R.1.length ≠ N) := (by
          rw [HR2.out, lensF_full s N _ _ _ _ (by simp; omega)]
          simp; omega : _ ≠ _)
        go_wp2_with fail
        refine (mal_any _ _).mono ?_
        rintro e w3 ⟨rfl, rfl⟩
        go_wp2_with fail
        go_ret2
        exact .inr ⟨.inr HB.out, ⟨_, rfl⟩, RdE.allocE r5 _, hF2.alloc _⟩
      have d1 : decide ((N : Int) - (L.length : Int) < (k : Int)) = false := decide_eq_false (by omega)
      go_wp2_with fail
      go_loopw [8, 47] (fun vv iv wx => ∃ (i g cap : Nat), i ≤ k ∧ iv = .int .i64 (i : Int) ∧ vv = .slice (some ⟨g, 0, none⟩) (L.length + i) cap ∧ wx.ownsRow w.heap.size 5 1 vv (L.length + i) (lenCells (L ++ List.replicate i v)) ∧ Rd wx tb rb s p2 ∧ RF tb rb w wx) (fun _ iv _ => k - (intOf iv).toNat)
      case atStart => exact ⟨0, g, cap, Nat.zero_le _, rfl, rfl, by simpa using hown2, r5, hF2⟩
      case round =>
        clear hown2 hF2 r5
        obtain ⟨i, g3, cap3, hi, rfl, rfl, hown3, hRd3, hF3⟩ := hrel
        have hg3 := hown3.lt g3 rfl
        have hgt3 : g3 ≠ tb ∧ g3 ≠ rb := by omega
        by_cases hik : i < k
        · have hn8 : L.length + i ≤ 100000000 := by omega
          have hbs : w.heap.size ≤ wr.heap.size := hF3.size
          have HLR : Hid (lenCells (L ++ List.replicate i v) ++ [.int .u8 ((v : Nat) : Int)] = lenCells (L ++ List.replicate (i + 1) v)) := (by
            rw [← lenCells_snoc, List.append_assoc, List.replicate_succ'] : _ = _)
          go_wp2_with (first
            | (at_builtin; refine append_byte2 rfl _ _ rfl w.heap.size _ (L.length + i) (lenCells (L ++ List.replicate i v)) ((v : Nat) : Int) hown3 rfl rfl hn8 hbs ?_; go_must (intro v' w4 hown' hg hw; obtain ⟨g', cap', rfl⟩ := RfW.own_shape hown'))
            | go_in)
          go_roundw
          case rel =>
            refine ⟨i + 1, g', cap', by omega, by go_num, rfl, ?_, rd_grown (g := g3) hRd3 hg hgt3.1 hgt3.2, rf_grown (g := g3) hF3 hg hg3.1⟩
            rw [← HLR.out]; exact hown'
          case measure => simp [intOf]; omega
        · have hik2 : i = k := by omega
          subst hik2
          have hlen : (L ++ List.replicate i v).length = L.length + i := by simp
          go_wp2_with fail
          go_roundw
          case rel =>
            refine ⟨f', p2, g3, cap3, L ++ List.replicate i v, HR2.out, by omega, by omega, ?_, by rw [hlen], by rw [hlen]; exact hown3, hRd3, hF3⟩
            intro x hx'
            rcases List.mem_append.1 hx' with hx' | hx'
            · exact hLx x hx'
            · rw [List.eq_of_mem_replicate hx']; exact r2
          case measure => simp; omega
    · have hLe : L.length = N := by omega
      have HB : Hid (R = (L, ⟨p, false⟩)) := (by rw [HR.out]; exact lensF_full s N _ _ L _ hlt2 : _ = _)
      go_wp2_with fail
      go_ret2
      exact .inl ⟨L, p, g, cap, HB.out, hLe, hLx, by rw [← hLe]; rfl, by rw [← hLe]; exact hown, hRd, hF⟩
end Go.Proofs.YtjfifmadldcjjaaGreatDoor.Pr
