/- The walk of a table's Read, where a code's value is what its symbol stands for. -/
import Derived.Test.YtjfifmadldcjjaaGreatDoorReadI
namespace Go.Proofs.YtjfifmadldcjjaaGreatDoor.Pr
open Go.RowKit Rf
/-- what a symbol stands for, as a value: its kind, a number, how many bits more -/
def meanV (m : Nat × Nat × Nat) : Value := .agg #[.int .u8 (m.1 : Int), .int .i64 (m.2.1 : Int), .int .u64 (m.2.2 : Int)]
/-- a table whose values are what symbols stand for -/
def TabM (w : World) (k : Nat) (mean : Nat → Nat × Nat × Nat) (L : List Nat) : Prop := ∃ vb vcur, TabHd w k vb 169 L ∧ w.heap[vb]? = some (.cells vcur 149 (0, 0)) ∧
  ∀ j, j < sN L 16 → vcur[j * 3]? = some (.int .u8 ((mean ((ordN L 16).getD j 0)).1 : Int)) ∧ vcur[j * 3 + 1]? = some (.int .i64 ((mean ((ordN L 16).getD j 0)).2.1 : Int)) ∧ vcur[j * 3 + 2]? = some (.int .u64 ((mean ((ordN L 16).getD j 0)).2.2 : Int))
theorem TabM.over {w w' : World} {k tb rb : Nat} {mean : Nat → Nat × Nat × Nat} {L : List Nat} {s : ByteArray} {pos : Nat} (h : TabM w k mean L) (hr : Rd w tb rb s pos) (hf : RF tb rb w w') : TabM w' k mean L := by
  obtain ⟨vb, vcur, ⟨cur, a, b⟩, c, d⟩ := h
  obtain ⟨_, _, hr⟩ := hr
  have n1 := hr.types a (by decide) (by decide)
  have n2 := hr.types c (by decide) (by decide)
  exact ⟨vb, vcur, ⟨cur, (hf.block k (lt_of_some a) n1.1 n1.2).trans a, b⟩, (hf.block vb (lt_of_some c) n2.1 n2.2).trans c, d⟩
theorem RF.setNew {tb rb : Nat} {u v : World} (h : RF tb rb u v) (b o : Nat) (hb : u.heap.size ≤ b) (x : Value) : RF tb rb u (v.setCell ⟨b, o, none⟩ x) :=
  ⟨h.os, h.tape, h.output, by simpa using h.size, fun k hk a e => (Below.heap_setCell v ⟨b, o, none⟩ x k (show k ≠ b by omega)).trans (h.block k hk a e)⟩
theorem RdG.setNew {w : World} {tb rb : Nat} {s : ByteArray} {pos c : Nat} (h : RdG w tb rb s pos c) (b o : Nat) (x : Value) (h1 : b ≠ tb) (h2 : b ≠ rb) : RdG (w.setCell ⟨b, o, none⟩ x) tb rb s pos c := h.over (set_other o x (Ne.symm h1)) (set_other o x (Ne.symm h2))
theorem Rd.setNew {w : World} {tb rb : Nat} {s : ByteArray} {pos : Nat} (h : Rd w tb rb s pos) (b o : Nat) (x : Value) (h1 : b ≠ tb) (h2 : b ≠ rb) : Rd (w.setCell ⟨b, o, none⟩ x) tb rb s pos := by
  obtain ⟨c, hc, h⟩ := h; exact ⟨c, hc, h.setNew b o x h1 h2⟩
theorem RdE.setNew {w : World} {tb rb : Nat} {s : ByteArray} (h : RdE w tb rb s) (b o : Nat) (x : Value) (h1 : b ≠ tb) (h2 : b ≠ rb) : RdE (w.setCell ⟨b, o, none⟩ x) tb rb s := by
  obtain ⟨p, c, hc, h⟩ := h; exact ⟨p, c, hc, h.setNew b o x h1 h2⟩
theorem RdE.drew {w : World} {tb rb : Nat} {s : ByteArray} (h : RdE w tb rb s) : RdE w.drew tb rb s := h
theorem Rd.drew {w : World} {tb rb : Nat} {s : ByteArray} {pos : Nat} (h : Rd w tb rb s pos) : Rd w.drew tb rb s pos := h
theorem RdE.alloc {w : World} {tb rb : Nat} {s : ByteArray} (h : RdE w tb rb s) (o : Obj) : RdE (w.alloc o) tb rb s := by
  obtain ⟨p, c, hc, h⟩ := h; exact ⟨p, c, hc, h.alloc o⟩
set_option maxRecDepth 10000 in
set_option maxHeartbeats 4000000 in
theorem readM_any (k tb rb : Nat) (eb : Addr) (L : List Nat) (s : ByteArray) (pos : Nat) (w : World) (mean : Nat → Nat × Nat × Nat) (h : TabM w k mean L) (hR : Rd w tb rb s pos) (hend : EndIs w eb) (hs : s.size ≤ 140737488351232) (hl : L.length ≤ 400) (hx : ∀ x ∈ L, x ≤ 15) (hK : kN L 16 ≤ 32768) (hg1 : 0 ≠ tb) (hg2 : 0 ≠ rb) :
    Calls Tryz.prog 75 #[.pointer (some ⟨k, 0, none⟩), .pointer (some ⟨rb, 0, none⟩)] w fun e w' =>
      (∃ y p, symT s (codesT L).cs ⟨pos, false⟩ = (y, ⟨p, false⟩) ∧ e = .returned (.tuple #[meanV (mean y), .nilIface]) ∧ Rd w' tb rb s p ∧ RF tb rb w w') ∨
      ((symT s (codesT L).cs ⟨pos, false⟩).2.bad = true ∧ (∃ a, e = .returned (.tuple #[meanV (0, 0, 0), .iface 62 (.pointer (some a))])) ∧ RdE w' tb rb s ∧ RF tb rb w w') := by
  have hR0 : Rd ((w.alloc (.cells #[.int .u8 0, .int .i64 0, .int .u64 0] 149)).alloc (.cells #[.int .u8 0, .int .i64 0, .int .u64 0] 149)) tb rb s pos := by
    obtain ⟨c, hc, hR⟩ := hR
    exact ⟨c, hc, (hR.alloc _).alloc _⟩
  have hF0 : RF tb rb w ((w.alloc (.cells #[.int .u8 0, .int .i64 0, .int .u64 0] 149)).alloc (.cells #[.int .u8 0, .int .i64 0, .int .u64 0] 149)) := ((RF.refl tb rb w).alloc _).alloc _
  have h0 : TabM ((w.alloc (.cells #[.int .u8 0, .int .i64 0, .int .u64 0] 149)).alloc (.cells #[.int .u8 0, .int .i64 0, .int .u64 0] 149)) k mean L := h.over hR hF0
  have hend0 : EndIs ((w.alloc (.cells #[.int .u8 0, .int .i64 0, .int .u64 0] 149)).alloc (.cells #[.int .u8 0, .int .i64 0, .int .u64 0] 149)) eb := Er.cell_alloc (Er.cell_alloc hend _) _
  have hz1 : ((w.alloc (.cells #[.int .u8 0, .int .i64 0, .int .u64 0] 149)).alloc (.cells #[.int .u8 0, .int .i64 0, .int .u64 0] 149)).heap[w.heap.size]? = some (.cells #[.int .u8 0, .int .i64 0, .int .u64 0] 149 (0, 0)) := by
    rw [Below.heap_alloc _ _ _ (by simp)]; exact (MapKept.heap_alloc w _).1
  have hz2 : ((w.alloc (.cells #[.int .u8 0, .int .i64 0, .int .u64 0] 149)).alloc (.cells #[.int .u8 0, .int .i64 0, .int .u64 0] 149)).heap[w.heap.size + 1]? = some (.cells #[.int .u8 0, .int .i64 0, .int .u64 0] 149 (0, 0)) := by
    have h := (MapKept.heap_alloc (w.alloc (.cells #[.int .u8 0, .int .i64 0, .int .u64 0] 149)) (.cells #[.int .u8 0, .int .i64 0, .int .u64 0] 149)).1
    rw [World.size_alloc] at h
    exact h
  have hzs : ((w.alloc (.cells #[.int .u8 0, .int .i64 0, .int .u64 0] 149)).alloc (.cells #[.int .u8 0, .int .i64 0, .int .u64 0] 149)).heap.size = w.heap.size + 2 := by simp
  have hnt : ∀ k, k ≠ tb ∧ k ≠ rb ∨ k < w.heap.size := fun k => by
    obtain ⟨c, hc, t, _, _, _, h4, h5⟩ := hR
    have := lt_of_some h4
    have := lt_of_some h5
    omega
  have hblk : ∀ {v : World} {b : Nat}, RF tb rb ((w.alloc (.cells #[.int .u8 0, .int .i64 0, .int .u64 0] 149)).alloc (.cells #[.int .u8 0, .int .i64 0, .int .u64 0] 149)) v → w.heap.size ≤ b → b < w.heap.size + 2 → v.heap[b]? = some (.cells #[.int .u8 0, .int .i64 0, .int .u64 0] 149 (0, 0)) := fun {v b} hv h1 h2 => by
    have hb := hnt b
    have e := hv.block b (by rw [hzs]; exact h2) (by omega) (by omega)
    rcases (by omega : b = w.heap.size ∨ b = w.heap.size + 1) with rfl | rfl
    · exact e.trans hz1
    · exact e.trans hz2
  have hlg : longest L ≤ 15 := longest_le L 15 hx
  go_enter Tryz.func75, Tryz.ntmps75
  go_wp2_with fail
  go_loopw [7, 8, 9, 10] (fun cv fv sv lv wr => ∃ m c g sh : Nat, m ≤ longest L ∧ lv = .int .i64 ((m + 1 : Nat) : Int) ∧ cv = .int .i64 (c : Int) ∧ fv = .int .i64 (g : Int) ∧ sv = .int .i64 (sh : Int) ∧ g = fN L m + cN L m ∧ sh = sN L (m + 1) ∧ c < 2 ^ m ∧ g ≤ c ∧
    symT s (codesT L).cs ⟨pos, false⟩ = symL s (codesT L).cs (15 - m) (binT c m) ⟨pos + m, false⟩ ∧ Rd wr tb rb s (pos + m) ∧ RF tb rb ((w.alloc (.cells #[.int .u8 0, .int .i64 0, .int .u64 0] 149)).alloc (.cells #[.int .u8 0, .int .i64 0, .int .u64 0] 149)) wr) (fun _ _ _ lv _ => 17 - (intOf lv).toNat)
  case atStart => exact ⟨0, 0, 0, 0, Nat.zero_le _, rfl, rfl, rfl, rfl, by simp [fN, cN], by simp [sN, cN], by simp, Nat.le_refl _, symT_begin s _ _, hR0, RF.refl _ _ _⟩
  case round =>
    obtain ⟨m, c, g, sh, hm, rfl, rfl, rfl, rfl, hg, hsh, hc, hgc, hsym, hRr, hF⟩ := hrel
    have hT : TabM wr k mean L := h0.over hR0 hF
    have hend1 : EndIs wr eb := hend0.over (hF.block _ hend0.lt hg1 hg2)
    obtain ⟨vb, vcur, hHd, hvb, hval⟩ := hT
    have c0 := hHd.c0
    have HS : Hid _ := hsym
    have HG : Hid (g = fN L m + cN L m ∧ sh = sN L (m + 1) ∧ c < 2 ^ m) := (⟨hg, hsh, hc⟩ : _ ∧ _ ∧ _)
    have hm15 : m ≤ 15 := by omega
    have hp : 2 ^ m ≤ 2 ^ 15 := Nat.pow_le_pow_right (by omega) hm15
    have hcb : c ≤ 32767 := by omega
    clear hsym hg hsh hc hp
    by_cases hlt : m + 1 ≤ longest L
    · go_wp2_with fail
      refine (bit_any tb rb eb s (pos + m) _ hRr hend1 hs).mono ?_
      rintro e w1 (⟨k0, k1, rfl, k2, k3, _⟩ | ⟨k0, ⟨a, rfl⟩, k1, k2⟩)
      · have hHd1 : TabM w1 k mean L := h0.over hR0 (hF.trans k3)
        clear hHd hvb hval c0
        obtain ⟨vb, vcur, hHd, hvb, hval⟩ := hHd1
        have c0 := hHd.c0
        have c17 := hHd.c17
        have cn := hHd.cn (m + 1) (by omega)
        have hb : bitsV s (pos + m) 1 ≤ 1 := by have := bitsV_lt s (pos + m) 1; omega
        obtain ⟨b, hb0⟩ : ∃ b, b = bitsV s (pos + m) 1 := ⟨_, rfl⟩
        rw [← hb0] at hb ⊢
        have hor := or_bit c b (by omega) hb
        obtain ⟨c', hc'⟩ : ∃ c', c' = 2 * c + b := ⟨_, rfl⟩
        rw [← hc'] at hor
        have hc2 : c' ≤ 65535 := by omega
        have hcc : cN L (m + 1) ≤ 400 := by have := cN_le L (m + 1); omega
        have HC : Hid (c' = 2 * c + b) := hc'
        have hpl : (c' : Int) - (g : Int) * 2 = ((c' - 2 * g : Nat) : Int) := by omega
        obtain ⟨pl, hpl0⟩ : ∃ pl, pl = c' - 2 * g := ⟨_, rfl⟩
        rw [← hpl0] at hpl
        have HP : Hid (pl = c' - 2 * g) := hpl0
        clear hc' hpl0
        obtain ⟨cc, hcc0⟩ : ∃ cc, cc = cN L (m + 1) := ⟨_, rfl⟩
        rw [← hcc0] at hcc cn
        have HE : Hid (cc = cN L (m + 1)) := hcc0
        clear hcc0
        have hle : sN L (m + 2) ≤ sN L 16 := sN_mono L _ _ (by omega)
        have hle2 : sN L 16 ≤ 6400 := sN_le L hl
        have hsn : sh + cc ≤ sN L 16 := by
          have h1 := HG.out.2.1
          rw [HE.out, h1]
          exact hle
        obtain ⟨hstep1, hstep2⟩ := sym_step s L m c b (pos + m) (by omega) HG.out.2.2 (by rw [← HG.out.1]; exact hgc) hb0 k1 hK
        have e2g : fN L (m + 1) = 2 * g := by rw [fN, HG.out.1]
        rw [e2g, ← HC.out, ← HP.out, ← HG.out.2.1, ← HE.out] at hstep1
        rw [e2g, ← HC.out, ← HP.out, ← HE.out] at hstep2
        have H1 : Hid _ := hstep1
        have H2 : Hid _ := hstep2
        clear hstep1 hstep2 e2g hle hb0
        generalize sN L 16 = NN at *
        by_cases hhit : pl < cc
        · have hidx : sh + pl < NN := by omega
          obtain ⟨v0, v1, v2⟩ := hval (sh + pl) hidx
          have hc0 := (cell_of hvb ((sh + pl) * 3)).1.trans v0
          have hc1 := (cell_of hvb ((sh + pl) * 3 + 1)).1.trans v1
          have hc2' := (cell_of hvb ((sh + pl) * 3 + 2)).1.trans v2
          have r0 := hblk (hF.trans k3) (Nat.le_refl _) (by omega)
          have s0 := (cell_of r0 0)
          have s1 := (cell_of r0 1)
          have s2 := (cell_of r0 2)
          have t0 : w1.cell? ⟨w.heap.size, 0, none⟩ = some (.int .u8 0) := by simpa using s0.1
          have t1 : w1.cell? ⟨w.heap.size, 1, none⟩ = some (.int .i64 0) := by simpa using s1.1
          have t2 : w1.cell? ⟨w.heap.size, 2, none⟩ = some (.int .u64 0) := by simpa using s2.1
          have f0 := s0.2
          have f1 := s1.2
          have f2 := s2.2
          clear s0 s1 s2 v0 v1 v2
          generalize hy : (ordN L 16).getD (sh + pl) 0 = y at *
          have hnb := hnt w.heap.size
          have hbt : w.heap.size ≠ tb ∧ w.heap.size ≠ rb := by omega
          have g0 : (w1.setCell ⟨w.heap.size, 0, none⟩ (.int .u8 ((mean y).1 : Int))).cell? ⟨w.heap.size, 0, none⟩ = some (.int .u8 ((mean y).1 : Int)) := by simpa using (cell_of (set_of r0 0 (.int .u8 ((mean y).1 : Int))) 0).1
          have g1 : ((w1.setCell ⟨w.heap.size, 0, none⟩ (.int .u8 ((mean y).1 : Int))).setCell ⟨w.heap.size, 1, none⟩ (.int .i64 ((mean y).2.1 : Int))).cell? ⟨w.heap.size, 1, none⟩ = some (.int .i64 ((mean y).2.1 : Int)) := by simpa using (cell_of (set_of (set_of r0 0 (.int .u8 ((mean y).1 : Int))) 1 (.int .i64 ((mean y).2.1 : Int))) 1).1
          have g2 : (((w1.setCell ⟨w.heap.size, 0, none⟩ (.int .u8 ((mean y).1 : Int))).setCell ⟨w.heap.size, 1, none⟩ (.int .i64 ((mean y).2.1 : Int))).setCell ⟨w.heap.size, 2, none⟩ (.int .u64 ((mean y).2.2 : Int))).cell? ⟨w.heap.size, 2, none⟩ = some (.int .u64 ((mean y).2.2 : Int)) := by simpa using (cell_of (set_of (set_of (set_of r0 0 (.int .u8 ((mean y).1 : Int))) 1 (.int .i64 ((mean y).2.1 : Int))) 2 (.int .u64 ((mean y).2.2 : Int))) 2).1
          go_wp2_with fail
          refine bodyPost_ret (v := .tuple #[meanV (mean y), .nilIface]) (by simp [g0, g1, g2, results, Tryz.results75, go_sem, meanV]) rfl (.inl ⟨_, _, HS.out.trans (H1.out hhit), rfl, ?_, ?_⟩)
          · exact ((k2.setNew _ 0 _ hbt.1 hbt.2).setNew _ 1 _ hbt.1 hbt.2).setNew _ 2 _ hbt.1 hbt.2
          · exact (((hF0.trans (hF.trans k3)).setNew _ 0 (Nat.le_refl _) _).setNew _ 1 (Nat.le_refl _) _).setNew _ 2 (Nat.le_refl _) _
        · go_wp2_with fail
          go_roundw
          case rel =>
            have hG := HG.out
            refine ⟨m + 1, c', 2 * g + cc, sh + cc, hlt, by go_num, rfl, by go_num, by go_num, ?_, ?_, ?_, ?_, HS.out.trans (H2.out hhit), k2, hF.trans k3⟩
            · rw [fN, ← hG.1, ← HE.out]
            · rw [HE.out, hG.2.1]; rfl
            · rw [HC.out, Nat.pow_succ]; omega
            · rw [HP.out] at hhit; have := HC.out; omega
          case measure => simp [intOf]; omega
      · clear hHd hvb hval c0
        have H3 : Hid ((symT s (codesT L).cs ⟨pos, false⟩).2.bad = true) := (by
          rw [HS.out, show 15 - m = (15 - (m + 1)) + 1 by omega, symL_end s _ _ _ _ rfl k0] : _ = _)
        have r0 := hblk (hF.trans k2) (Nat.le_refl _) (by omega)
        have r1 := hblk (hF.trans k2) (Nat.le_succ _) (by omega)
        have t0 : w1.cell? ⟨w.heap.size, 0, none⟩ = some (.int .u8 0) := by simpa using (cell_of r0 0).1
        have t1 : w1.cell? ⟨w.heap.size, 1, none⟩ = some (.int .i64 0) := by simpa using (cell_of r0 1).1
        have t2 : w1.cell? ⟨w.heap.size, 2, none⟩ = some (.int .u64 0) := by simpa using (cell_of r0 2).1
        have q0 : w1.cell? ⟨w.heap.size + 1, 0, none⟩ = some (.int .u8 0) := by simpa using (cell_of r1 0).1
        have q1 : w1.cell? ⟨w.heap.size + 1, 1, none⟩ = some (.int .i64 0) := by simpa using (cell_of r1 1).1
        have q2 : w1.cell? ⟨w.heap.size + 1, 2, none⟩ = some (.int .u64 0) := by simpa using (cell_of r1 2).1
        have f0 := (cell_of r0 0).2
        have f1 := (cell_of r0 1).2
        have f2 := (cell_of r0 2).2
        have hnb := hnt w.heap.size
        have hbt : w.heap.size ≠ tb ∧ w.heap.size ≠ rb := by omega
        have g0 : (w1.setCell ⟨w.heap.size, 0, none⟩ (.int .u8 0)).cell? ⟨w.heap.size, 0, none⟩ = some (.int .u8 0) := by simpa using (cell_of (set_of r0 0 (.int .u8 0)) 0).1
        have g1 : ((w1.setCell ⟨w.heap.size, 0, none⟩ (.int .u8 0)).setCell ⟨w.heap.size, 1, none⟩ (.int .i64 0)).cell? ⟨w.heap.size, 1, none⟩ = some (.int .i64 0) := by simpa using (cell_of (set_of (set_of r0 0 (.int .u8 0)) 1 (.int .i64 0)) 1).1
        have g2 : (((w1.setCell ⟨w.heap.size, 0, none⟩ (.int .u8 0)).setCell ⟨w.heap.size, 1, none⟩ (.int .i64 0)).setCell ⟨w.heap.size, 2, none⟩ (.int .u64 0)).cell? ⟨w.heap.size, 2, none⟩ = some (.int .u64 0) := by simpa using (cell_of (set_of (set_of (set_of r0 0 (.int .u8 0)) 1 (.int .i64 0)) 2 (.int .u64 0)) 2).1
        go_wp2_with fail
        refine bodyPost_ret (v := .tuple #[meanV (0, 0, 0), .iface 62 (.pointer (some a))]) (by simp [g0, g1, g2, results, Tryz.results75, go_sem, meanV]) rfl (.inr ⟨H3.out, ⟨a, rfl⟩, ?_, ?_⟩)
        · exact ((k1.setNew _ 0 _ hbt.1 hbt.2).setNew _ 1 _ hbt.1 hbt.2).setNew _ 2 _ hbt.1 hbt.2
        · exact (((hF0.trans (hF.trans k2)).setNew _ 0 (Nat.le_refl _) _).setNew _ 1 (Nat.le_refl _) _).setNew _ 2 (Nat.le_refl _) _
    · have H3 : Hid ((symT s (codesT L).cs ⟨pos, false⟩).2.bad = true) := (by
        rw [HS.out]
        exact symL_none s _ _ _ _ (fun q hq => findC_long L q (by rw [binT_length] at hq; omega)) : _ = _)
      have hRE : RdE wr tb rb s := by
        obtain ⟨cc, hcc, hR0⟩ := hRr
        exact hR0.rdE (by omega)
      have r0 := hblk hF (Nat.le_refl _) (by omega)
      have r1 := hblk hF (Nat.le_succ _) (by omega)
      have t0 : wr.cell? ⟨w.heap.size, 0, none⟩ = some (.int .u8 0) := by simpa using (cell_of r0 0).1
      have t1 : wr.cell? ⟨w.heap.size, 1, none⟩ = some (.int .i64 0) := by simpa using (cell_of r0 1).1
      have t2 : wr.cell? ⟨w.heap.size, 2, none⟩ = some (.int .u64 0) := by simpa using (cell_of r0 2).1
      have q0 : wr.cell? ⟨w.heap.size + 1, 0, none⟩ = some (.int .u8 0) := by simpa using (cell_of r1 0).1
      have q1 : wr.cell? ⟨w.heap.size + 1, 1, none⟩ = some (.int .i64 0) := by simpa using (cell_of r1 1).1
      have q2 : wr.cell? ⟨w.heap.size + 1, 2, none⟩ = some (.int .u64 0) := by simpa using (cell_of r1 2).1
      have f0 := (cell_of r0 0).2
      have f1 := (cell_of r0 1).2
      have f2 := (cell_of r0 2).2
      have T0 : ∀ o : Obj, (wr.alloc o).cell? ⟨w.heap.size, 0, none⟩ = _ := fun o => Er.cell_alloc t0 o
      have T1 : ∀ o : Obj, (wr.alloc o).cell? ⟨w.heap.size, 1, none⟩ = _ := fun o => Er.cell_alloc t1 o
      have T2 : ∀ o : Obj, (wr.alloc o).cell? ⟨w.heap.size, 2, none⟩ = _ := fun o => Er.cell_alloc t2 o
      have Q0 : ∀ o : Obj, (wr.alloc o).cell? ⟨w.heap.size + 1, 0, none⟩ = _ := fun o => Er.cell_alloc q0 o
      have Q1 : ∀ o : Obj, (wr.alloc o).cell? ⟨w.heap.size + 1, 1, none⟩ = _ := fun o => Er.cell_alloc q1 o
      have Q2 : ∀ o : Obj, (wr.alloc o).cell? ⟨w.heap.size + 1, 2, none⟩ = _ := fun o => Er.cell_alloc q2 o
      have F0 : ∀ o : Obj, (wr.alloc o).frozen? ⟨w.heap.size, 0, none⟩ = false := fun o => Er.frozen_alloc t0 o f0
      have F1 : ∀ o : Obj, (wr.alloc o).frozen? ⟨w.heap.size, 1, none⟩ = false := fun o => Er.frozen_alloc t1 o f1
      have F2 : ∀ o : Obj, (wr.alloc o).frozen? ⟨w.heap.size, 2, none⟩ = false := fun o => Er.frozen_alloc t2 o f2
      have hnb := hnt w.heap.size
      have hbt : w.heap.size ≠ tb ∧ w.heap.size ≠ rb := by omega
      have R0 : ∀ o : Obj, (wr.alloc o).heap[w.heap.size]? = some (.cells #[.int .u8 0, .int .i64 0, .int .u64 0] 149 (0, 0)) := fun o => (Below.heap_alloc wr o _ (lt_of_some r0)).trans r0
      have G0 : ∀ o : Obj, ((wr.alloc o).setCell ⟨w.heap.size, 0, none⟩ (.int .u8 0)).cell? ⟨w.heap.size, 0, none⟩ = some (.int .u8 0) := fun o => by simpa using (cell_of (set_of (R0 o) 0 (.int .u8 0)) 0).1
      have G1 : ∀ o : Obj, (((wr.alloc o).setCell ⟨w.heap.size, 0, none⟩ (.int .u8 0)).setCell ⟨w.heap.size, 1, none⟩ (.int .i64 0)).cell? ⟨w.heap.size, 1, none⟩ = some (.int .i64 0) := fun o => by simpa using (cell_of (set_of (set_of (R0 o) 0 (.int .u8 0)) 1 (.int .i64 0)) 1).1
      have G2 : ∀ o : Obj, ((((wr.alloc o).setCell ⟨w.heap.size, 0, none⟩ (.int .u8 0)).setCell ⟨w.heap.size, 1, none⟩ (.int .i64 0)).setCell ⟨w.heap.size, 2, none⟩ (.int .u64 0)).cell? ⟨w.heap.size, 2, none⟩ = some (.int .u64 0) := fun o => by simpa using (cell_of (set_of (set_of (set_of (R0 o) 0 (.int .u8 0)) 1 (.int .i64 0)) 2 (.int .u64 0)) 2).1
      clear r0 r1 hHd hvb hval R0
      go_wp2_with fail
      go_region_with ((go_at_call 53; refine (mal_any _ _).mono ?_; rintro e w3 ⟨rfl, rfl⟩))
      all_goals go_wp2_with fail
      all_goals
        refine bodyPost_ret (v := .tuple #[meanV (0, 0, 0), .iface 62 (.pointer (some ⟨wr.heap.size, 0, none⟩))]) (by simp [G0, G1, G2, results, Tryz.results75, go_sem, meanV]) rfl (.inr ⟨H3.out, ⟨_, rfl⟩, ?_, ?_⟩)
        · exact ((((hRE.alloc _).setNew _ 0 _ hbt.1 hbt.2).setNew _ 1 _ hbt.1 hbt.2).setNew _ 2 _ hbt.1 hbt.2).drew
        · exact (((((hF0.trans hF).alloc _).setNew _ 0 (Nat.le_refl _) _).setNew _ 1 (Nat.le_refl _) _).setNew _ 2 (Nat.le_refl _) _).drew
end Go.Proofs.YtjfifmadldcjjaaGreatDoor.Pr
