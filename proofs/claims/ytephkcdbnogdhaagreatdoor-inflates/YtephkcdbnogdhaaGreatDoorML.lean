/- The walk of the ring's Add. -/
import Derived.Test.YtephkcdbnogdhaaGreatDoorMK
set_option linter.unusedVariables false
namespace Go.Proofs.YtephkcdbnogdhaaGreatDoor.Pr
open Go.RowKit Rf
open RfW (byteCells byteCells_snoc)
theorem mod_next (n win : Nat) (hw : 1 ≤ win) : (n + 1) % win = if n % win + 1 = win then 0 else n % win + 1 := by
  have h := Nat.mod_lt n (show 0 < win by omega)
  rw [Nat.add_mod]
  by_cases e : win = 1
  · subst e; simp [Nat.mod_one]
  · rw [Nat.mod_eq_of_lt (show 1 < win by omega)]
    by_cases e2 : n % win + 1 = win
    · rw [if_pos e2, e2, Nat.mod_self]
    · rw [if_neg e2, Nat.mod_eq_of_lt (by omega)]
/-- what is left of Add once the row has been turned -/
theorem RingAt.done {w w2 w3 : World} {gb base : Nat} {v v' : Value} {win : Nat} {out : List UInt8} {x : UInt8} (h : RingAt w gb base v win out) (hf : Fr (fun k => k = gb ∨ v.ownBlock = some k) w w2) (hb : w2.heap[gb]? = some (.cells #[.int .i64 (win : Int), v', .int .i64 (((out.length + 1) % win : Nat) : Int)] 231 (0, 0)))
    (hown : w2.ownsRow base 5 1 v' (min (out.length + 1) win) (ringCells (out ++ [x]) win)) (e : w3.heap = w2.heap) (e1 : w3.os = w2.os) (e2 : w3.tape = w2.tape) (e3 : w3.output = w2.output) :
    RingAt w3 gb base v' win (out ++ [x]) ∧ Fr (fun k => k = gb ∨ v.ownBlock = some k) w w3 := by
  refine ⟨⟨?_, ?_, ?_⟩, ⟨e1.trans hf.os, e2.trans hf.tape, e3.trans hf.output, by rw [e]; exact hf.size, fun k hk hS => by rw [e]; exact hf.block k hk hS⟩⟩
  · rw [e, List.length_append, List.length_singleton]; exact hb
  · rw [List.length_append, List.length_singleton]
    exact ownsRow_over hown (fun k _ => by rw [e])
  · rw [e]; exact Nat.le_trans h.2.2 hf.size
set_option maxRecDepth 10000 in
set_option maxHeartbeats 4000000 in
theorem add_few (gb base : Nat) (v : Value) (win : Nat) (out : List UInt8) (x : UInt8) (w : World) (h : RingAt w gb base v win out) (hw : 1 ≤ win) (hw2 : win ≤ 32768) (hn : out.length < win) :
    Calls Tryz.prog 196 #[.pointer (some ⟨gb, 0, none⟩), .int .u8 ((x.toNat : Nat) : Int)] w fun e w' => e = .returned (.tuple #[]) ∧ ∃ v', RingAt w' gb base v' win (out ++ [x]) ∧ Fr (fun k => k = gb ∨ v.ownBlock = some k) w w' ∧ (∀ k, v'.ownBlock = some k → v.ownBlock = some k ∨ w.heap.size ≤ k) := by
  have h0 := h
  obtain ⟨hb, hown, hbase⟩ := h
  have hmod : out.length % win = out.length := Nat.mod_eq_of_lt hn
  have hmin : min out.length win = out.length := by omega
  rw [hmod] at hb
  rw [hmin, ringCells_few out win (by omega)] at hown
  have hnb : v.ownBlock ≠ some gb := row_ne hown hb (by decide)
  have HMOD : Hid _ := mod_next out.length win hw
  have HCELLS : Hid (ringCells (out ++ [x]) win = byteCells out ++ [.int .u8 ((x.toNat : Nat) : Int)]) := (by rw [ringCells_few _ win (by simp; omega), byteCells_snoc] : _ = _)
  have hMin1 : min (out.length + 1) win = out.length + 1 := by omega
  have HMIN : Hid (min (out.length + 1) win = out.length + 1) := hMin1
  clear hMin1 hmin
  have hll : out.length ≤ 32768 := by omega
  have hl8 : out.length ≤ 100000000 := by omega
  have hdl : decide ((out.length : Int) < (win : Int)) = true := decide_eq_true (by omega)
  have b0 : w.cell? ⟨gb, 0, none⟩ = some (.int .i64 (win : Int)) := by simpa using (cell_of hb 0).1
  have b1 : w.cell? ⟨gb, 1, none⟩ = some v := by simpa using (cell_of hb 1).1
  rcases hown.2 with ⟨rfl, hv⟩ | ⟨g, cap, cur, rfl, hv⟩
  · have hl0 : out.length = 0 := hv
    have hd0 : decide ((0 : Int) < (win : Int)) = true := decide_eq_true (by omega)
    go_enter Tryz.func196, Tryz.ntmps196
    go_wp2
    go_quiet (fail)
    have q1 : (w.drewN nq).heap[gb]? = _ := hb
    have q2 : (w.drewN nq).ownsRow base 5 1 (.slice none 0 0) out.length (byteCells out) := hown
    have q3 : base ≤ (w.drewN nq).heap.size := hbase
    have q4 : Fr (fun k => k = gb ∨ (.slice none 0 0 : Value).ownBlock = some k) w (w.drewN nq) := ⟨rfl, rfl, rfl, Nat.le_refl _, fun _ _ _ => rfl⟩
    have q5 : Hid ((w.drewN nq).heap.size = w.heap.size) := rfl
    have p1 : (w.drewN nq).cell? ⟨gb, 1, none⟩ = some (.slice none 0 0) := by simpa using (cell_of q1 1).1
    clear b0 b1
    generalize w.drewN nq = w0 at *
    go_wp2_with (first
      | (at_builtin; refine append_byte2 rfl _ _ rfl base _ out.length (byteCells out) ((x.toNat : Nat) : Int) q2 rfl rfl hl8 q3 ?_; go_must (intro v' w2 hown' hg hw; obtain ⟨g', cap', rfl⟩ := RfW.own_shape hown'; have hgu := RfW.grown_cell hg q1 (by simp [Value.ownBlock]); have hgf1 := hgu.2 1; have hgf2 := hgu.2 2; have hgc : w2.cell? ⟨gb, 1, none⟩ = some (.slice none 0 0) := (by simpa using (cell_of hgu.1 1).1); have hgc2 : w2.cell? ⟨gb, 2, none⟩ = some (.int .i64 (out.length : Int)) := (by simpa using (cell_of hgu.1 2).1); have hgc0 : w2.cell? ⟨gb, 0, none⟩ = some (.int .i64 (win : Int)) := (by simpa using (cell_of hgu.1 0).1)))
      | go_in)
    have hl1 : out.length + 1 = 1 := by omega
    rw [hl1] at hown' hw
    have hkI : (1 : Int) = ((out.length + 1 : Nat) : Int) := by omega
    have E3 : ((w2.setCell ⟨gb, 1, none⟩ (.slice (some ⟨g', 0, none⟩) 1 cap')).setCell ⟨gb, 2, none⟩ (.int .i64 1)).heap[gb]? = some (.cells #[.int .i64 (win : Int), .slice (some ⟨g', 0, none⟩) 1 cap', .int .i64 1] 231 (0, 0)) := (set_of (set_of hgu.1 1 _) 2 _).trans (by simp)
    have O3 : ((w2.setCell ⟨gb, 1, none⟩ (.slice (some ⟨g', 0, none⟩) 1 cap')).setCell ⟨gb, 2, none⟩ (.int .i64 1)).ownsRow base 5 1 (.slice (some ⟨g', 0, none⟩) 1 cap') (1) (byteCells out ++ [.int .u8 ((x.toNat : Nat) : Int)]) := ownsRow_over hown' (fun k hk => by
      have hkg : k ≠ gb := fun e => row_ne hown' hgu.1 (by decide) (e ▸ hk)
      exact (set_other 2 _ hkg).trans (set_other 1 _ hkg))
    have F3 : Fr (fun k => k = gb ∨ (.slice none 0 0 : Value).ownBlock = some k) w ((w2.setCell ⟨gb, 1, none⟩ (.slice (some ⟨g', 0, none⟩) 1 cap')).setCell ⟨gb, 2, none⟩ (.int .i64 1)) := by
      have hs2 : w0.heap.size + 1 ≤ w2.heap.size := by have := hg.size; simpa using this
      have hsz := q5.out
      refine ⟨hg.os.trans q4.os, hg.tape.trans q4.tape, hg.output.trans q4.output, by simp; omega, fun k hk hS => ?_⟩
      refine (set_other 2 _ (fun e => hS (.inl e))).trans ((set_other 1 _ (fun e => hS (.inl e))).trans ?_)
      exact ((hg.block k (by simp; omega) (fun e => hS (.inr e.symm))).trans (Below.heap_alloc w0 _ k (by omega))).trans (q4.block k hk hS)
    have hw3 : ∀ k, (.slice (some ⟨g', 0, none⟩) 1 cap' : Value).ownBlock = some k → (.slice none 0 0 : Value).ownBlock = some k ∨ w.heap.size ≤ k := fun k hk => by rw [← q5.out]; exact hw k hk
    clear hgu hgf1 hgf2 hgc hgc2 hgc0 hown' hg hw q1 q2 q3 q4 q5 p1
    generalize ((w2.setCell ⟨gb, 1, none⟩ (.slice (some ⟨g', 0, none⟩) 1 cap')).setCell ⟨gb, 2, none⟩ (.int .i64 1)) = w3 at *
    have t0 : w3.cell? ⟨gb, 0, none⟩ = some (.int .i64 (win : Int)) := by simpa using (cell_of E3 0).1
    have t2 : w3.cell? ⟨gb, 2, none⟩ = some (.int .i64 1) := by simpa using (cell_of E3 2).1
    have u2 := (cell_of E3 2).2
    have HK : Hid _ := hkI
    clear hkI
    by_cases hE : out.length + 1 = win
    · have dE : decide (1 = (win : Int)) = true := decide_eq_true (by omega)
      go_quiet (fail)
      go_wp2_with fail
      go_end0
      have HM : (out.length + 1) % win = 0 := by rw [HMOD.out, hmod, if_pos hE]
      have hR := RingAt.done (v' := .slice (some ⟨g', 0, none⟩) 1 cap') (w2 := w3.setCell ⟨gb, 2, none⟩ (.int .i64 0)) (w3 := (w3.drewN nq).setCell ⟨gb, 2, none⟩ (.int .i64 0)) (x := x) h0 ⟨F3.os, F3.tape, F3.output, by simpa using F3.size, fun k hk hS => (set_other 2 _ (fun e => hS (.inl e))).trans (F3.block k hk hS)⟩ ((set_of E3 2 _).trans (by rw [HM]; simp)) (by rw [HMIN.out, HCELLS.out]; exact ownsRow_over (by first | exact O3 | (rw [hl1]; exact O3)) (fun k hk => set_other 2 _ (fun e => row_ne O3 E3 (by decide) (e ▸ hk)))) rfl rfl rfl rfl
      exact ⟨rfl, _, hR.1, hR.2, hw3⟩
    · have dE : decide (1 = (win : Int)) = false := decide_eq_false (by omega)
      go_quiet (fail)
      go_wp2_with fail
      go_end0
      have HM : (out.length + 1) % win = out.length + 1 := by rw [HMOD.out, hmod, if_neg hE]
      have hR := RingAt.done (w2 := w3) (w3 := w3.drewN nq) (x := x) h0 F3 (by rw [HM, ← HK.out]; exact E3) (by rw [HMIN.out, HCELLS.out]; first | exact O3 | (rw [hl1]; exact O3)) rfl rfl rfl rfl
      exact ⟨rfl, _, hR.1, hR.2, hw3⟩
  · have hgg : g ≠ gb := fun e => hnb (by rw [← e]; rfl)
    clear hv
    go_enter Tryz.func196, Tryz.ntmps196
    go_wp2
    go_quiet (fail)
    have q1 : (w.drewN nq).heap[gb]? = _ := hb
    have q2 : (w.drewN nq).ownsRow base 5 1 (.slice (some ⟨g, 0, none⟩) out.length cap) out.length (byteCells out) := hown
    have q3 : base ≤ (w.drewN nq).heap.size := hbase
    have q4 : Fr (fun k => k = gb ∨ (.slice (some ⟨g, 0, none⟩) out.length cap : Value).ownBlock = some k) w (w.drewN nq) := ⟨rfl, rfl, rfl, Nat.le_refl _, fun _ _ _ => rfl⟩
    have q5 : Hid ((w.drewN nq).heap.size = w.heap.size) := rfl
    have p1 : (w.drewN nq).cell? ⟨gb, 1, none⟩ = some (.slice (some ⟨g, 0, none⟩) out.length cap) := by simpa using (cell_of q1 1).1
    clear b0 b1
    generalize w.drewN nq = w0 at *
    go_wp2_with (first
      | (at_builtin; refine append_byte2 rfl _ _ rfl base _ out.length (byteCells out) ((x.toNat : Nat) : Int) q2 rfl rfl hl8 q3 ?_; go_must (intro v' w2 hown' hg hw; obtain ⟨g', cap', rfl⟩ := RfW.own_shape hown'; have hgu := RfW.grown_cell hg q1 (by simp [Value.ownBlock]; exact Ne.symm hgg); have hgf1 := hgu.2 1; have hgf2 := hgu.2 2; have hgc : w2.cell? ⟨gb, 1, none⟩ = some (.slice (some ⟨g, 0, none⟩) out.length cap) := (by simpa using (cell_of hgu.1 1).1); have hgc2 : w2.cell? ⟨gb, 2, none⟩ = some (.int .i64 (out.length : Int)) := (by simpa using (cell_of hgu.1 2).1); have hgc0 : w2.cell? ⟨gb, 0, none⟩ = some (.int .i64 (win : Int)) := (by simpa using (cell_of hgu.1 0).1)))
      | go_in)
    have hkI : (((out.length : Int) + 1) : Int) = ((out.length + 1 : Nat) : Int) := by omega
    have E3 : ((w2.setCell ⟨gb, 1, none⟩ (.slice (some ⟨g', 0, none⟩) (out.length + 1) cap')).setCell ⟨gb, 2, none⟩ (.int .i64 ((out.length : Int) + 1))).heap[gb]? = some (.cells #[.int .i64 (win : Int), .slice (some ⟨g', 0, none⟩) (out.length + 1) cap', .int .i64 ((out.length : Int) + 1)] 231 (0, 0)) := (set_of (set_of hgu.1 1 _) 2 _).trans (by simp)
    have O3 : ((w2.setCell ⟨gb, 1, none⟩ (.slice (some ⟨g', 0, none⟩) (out.length + 1) cap')).setCell ⟨gb, 2, none⟩ (.int .i64 ((out.length : Int) + 1))).ownsRow base 5 1 (.slice (some ⟨g', 0, none⟩) (out.length + 1) cap') (out.length + 1) (byteCells out ++ [.int .u8 ((x.toNat : Nat) : Int)]) := ownsRow_over hown' (fun k hk => by
      have hkg : k ≠ gb := fun e => row_ne hown' hgu.1 (by decide) (e ▸ hk)
      exact (set_other 2 _ hkg).trans (set_other 1 _ hkg))
    have F3 : Fr (fun k => k = gb ∨ (.slice (some ⟨g, 0, none⟩) out.length cap : Value).ownBlock = some k) w ((w2.setCell ⟨gb, 1, none⟩ (.slice (some ⟨g', 0, none⟩) (out.length + 1) cap')).setCell ⟨gb, 2, none⟩ (.int .i64 ((out.length : Int) + 1))) := by
      have hs2 : w0.heap.size + 1 ≤ w2.heap.size := by have := hg.size; simpa using this
      have hsz := q5.out
      refine ⟨hg.os.trans q4.os, hg.tape.trans q4.tape, hg.output.trans q4.output, by simp; omega, fun k hk hS => ?_⟩
      refine (set_other 2 _ (fun e => hS (.inl e))).trans ((set_other 1 _ (fun e => hS (.inl e))).trans ?_)
      exact ((hg.block k (by simp; omega) (fun e => hS (.inr e.symm))).trans (Below.heap_alloc w0 _ k (by omega))).trans (q4.block k hk hS)
    have hw3 : ∀ k, (.slice (some ⟨g', 0, none⟩) (out.length + 1) cap' : Value).ownBlock = some k → (.slice (some ⟨g, 0, none⟩) out.length cap : Value).ownBlock = some k ∨ w.heap.size ≤ k := fun k hk => by rw [← q5.out]; exact hw k hk
    clear hgu hgf1 hgf2 hgc hgc2 hgc0 hown' hg hw q1 q2 q3 q4 q5 p1
    generalize ((w2.setCell ⟨gb, 1, none⟩ (.slice (some ⟨g', 0, none⟩) (out.length + 1) cap')).setCell ⟨gb, 2, none⟩ (.int .i64 ((out.length : Int) + 1))) = w3 at *
    have t0 : w3.cell? ⟨gb, 0, none⟩ = some (.int .i64 (win : Int)) := by simpa using (cell_of E3 0).1
    have t2 : w3.cell? ⟨gb, 2, none⟩ = some (.int .i64 ((out.length : Int) + 1)) := by simpa using (cell_of E3 2).1
    have u2 := (cell_of E3 2).2
    have HK : Hid _ := hkI
    clear hkI
    by_cases hE : out.length + 1 = win
    · have dE : decide (((out.length : Int) + 1) = (win : Int)) = true := decide_eq_true (by omega)
      go_quiet (fail)
      go_wp2_with fail
      go_end0
      have HM : (out.length + 1) % win = 0 := by rw [HMOD.out, hmod, if_pos hE]
      have hR := RingAt.done (v' := .slice (some ⟨g', 0, none⟩) (out.length + 1) cap') (w2 := w3.setCell ⟨gb, 2, none⟩ (.int .i64 0)) (w3 := (w3.drewN nq).setCell ⟨gb, 2, none⟩ (.int .i64 0)) (x := x) h0 ⟨F3.os, F3.tape, F3.output, by simpa using F3.size, fun k hk hS => (set_other 2 _ (fun e => hS (.inl e))).trans (F3.block k hk hS)⟩ ((set_of E3 2 _).trans (by rw [HM]; simp)) (by rw [HMIN.out, HCELLS.out]; exact ownsRow_over (by first | exact O3 | (rw [hl1]; exact O3)) (fun k hk => set_other 2 _ (fun e => row_ne O3 E3 (by decide) (e ▸ hk)))) rfl rfl rfl rfl
      exact ⟨rfl, _, hR.1, hR.2, hw3⟩
    · have dE : decide (((out.length : Int) + 1) = (win : Int)) = false := decide_eq_false (by omega)
      go_quiet (fail)
      go_wp2_with fail
      go_end0
      have HM : (out.length + 1) % win = out.length + 1 := by rw [HMOD.out, hmod, if_neg hE]
      have hR := RingAt.done (w2 := w3) (w3 := w3.drewN nq) (x := x) h0 F3 (by rw [HM, ← HK.out]; exact E3) (by rw [HMIN.out, HCELLS.out]; first | exact O3 | (rw [hl1]; exact O3)) rfl rfl rfl rfl
      exact ⟨rfl, _, hR.1, hR.2, hw3⟩
theorem row_set {w : World} {base g n cap : Nat} {xs : List Value} (h : w.ownsRow base 5 1 (.slice (some ⟨g, 0, none⟩) n cap) n xs) (j : Nat) (u : Value) : (w.setCell ⟨g, j, none⟩ u).ownsRow base 5 1 (.slice (some ⟨g, 0, none⟩) n cap) n (xs.set j u) := by
  refine ⟨by simpa using h.1, ?_⟩
  rcases h.2 with ⟨h, _⟩ | ⟨g', cap', cur, e, a, b, c, d, f, t⟩
  · cases h
  · injection e with e1 e2 e3
    injection e1 with e1
    injection e1 with e1
    subst e1 e3
    refine .inr ⟨g, cap, cur.setIfInBounds j u, rfl, a, set_of b j u, c, d, by simpa using f, ?_⟩
    rw [Array.toList_setIfInBounds, List.take_set, t]
set_option maxRecDepth 10000 in
set_option maxHeartbeats 4000000 in
theorem add_full (gb base : Nat) (v : Value) (win : Nat) (out : List UInt8) (x : UInt8) (w : World) (h : RingAt w gb base v win out) (hw : 1 ≤ win) (hw2 : win ≤ 32768) (hn : ¬ out.length < win) :
    Calls Tryz.prog 196 #[.pointer (some ⟨gb, 0, none⟩), .int .u8 ((x.toNat : Nat) : Int)] w fun e w' => e = .returned (.tuple #[]) ∧ ∃ v', RingAt w' gb base v' win (out ++ [x]) ∧ Fr (fun k => k = gb ∨ v.ownBlock = some k) w w' ∧ (∀ k, v'.ownBlock = some k → v.ownBlock = some k ∨ w.heap.size ≤ k) := by
  have h0 := h
  obtain ⟨hb, hown, hbase⟩ := h
  have hmin : min out.length win = win := by omega
  rw [hmin] at hown
  have hnb : v.ownBlock ≠ some gb := row_ne hown hb (by decide)
  have hml := Nat.mod_lt out.length (show 0 < win by omega)
  have HMOD : Hid _ := mod_next out.length win hw
  have HCELLS : Hid _ := ringCells_full out x win hw (by omega)
  have HMIN : Hid (min (out.length + 1) win = win) := (by omega : _ = _)
  clear hmin
  obtain ⟨g, cap, rfl⟩ : ∃ g cap, v = .slice (some ⟨g, 0, none⟩) win cap := by
    rcases hown.2 with ⟨_, hv⟩ | ⟨g, cap, cur, rfl, hv⟩
    · omega
    · exact ⟨g, cap, rfl⟩
  have hgg : g ≠ gb := fun e => hnb (by rw [← e]; rfl)
  obtain ⟨nx, hnx⟩ : ∃ nx, nx = out.length % win := ⟨_, rfl⟩
  rw [← hnx] at hb hml
  have HNX : Hid (nx = out.length % win) := hnx
  clear hnx
  have b0 : w.cell? ⟨gb, 0, none⟩ = some (.int .i64 (win : Int)) := by simpa using (cell_of hb 0).1
  have b1 : w.cell? ⟨gb, 1, none⟩ = some (.slice (some ⟨g, 0, none⟩) win cap) := by simpa using (cell_of hb 1).1
  have b2 : w.cell? ⟨gb, 2, none⟩ = some (.int .i64 (nx : Int)) := by simpa using (cell_of hb 2).1
  have f2 := (cell_of hb 2).2
  have fg : w.frozen? ⟨g, nx, none⟩ = false := hown.frozenAt nx
  obtain ⟨u0, hu0⟩ : ∃ u0, w.cell? ⟨g, nx, none⟩ = some u0 := by
    have := hown.cellAt nx (by omega)
    rw [List.getElem?_eq_getElem (by rw [ringCells_len]; omega)] at this
    exact ⟨_, this⟩
  have d1 : decide ((win : Int) < (win : Int)) = false := decide_eq_false (by omega)
  have d2 : decide ((win : Int) < 1) = false := decide_eq_false (by omega)
  have W1 : (w.setCell ⟨g, nx, none⟩ (.int .u8 ((x.toNat : Nat) : Int))).heap[gb]? = some (.cells #[.int .i64 (win : Int), .slice (some ⟨g, 0, none⟩) win cap, .int .i64 (nx : Int)] 231 (0, 0)) := (set_other nx _ (Ne.symm hgg)).trans hb
  have k2 : (w.setCell ⟨g, nx, none⟩ (.int .u8 ((x.toNat : Nat) : Int))).cell? ⟨gb, 2, none⟩ = some (.int .i64 (nx : Int)) := by simpa using (cell_of W1 2).1
  have kf := (cell_of W1 2).2
  have O1 := row_set hown nx (.int .u8 ((x.toNat : Nat) : Int))
  go_enter Tryz.func196, Tryz.ntmps196
  go_wp2
  go_quiet (fail)
  go_wp2_with fail
  go_region
  have E1 : ((w.drewN (nq + 1)).setCell ⟨g, nx, none⟩ (.int .u8 ((x.toNat : Nat) : Int))).heap[gb]? = some (.cells #[.int .i64 (win : Int), .slice (some ⟨g, 0, none⟩) win cap, .int .i64 (nx : Int)] 231 (0, 0)) := W1
  have O2 : ((w.drewN (nq + 1)).setCell ⟨g, nx, none⟩ (.int .u8 ((x.toNat : Nat) : Int))).ownsRow base 5 1 (.slice (some ⟨g, 0, none⟩) win cap) win ((ringCells out win).set nx (.int .u8 ((x.toNat : Nat) : Int))) := O1
  have F1 : Fr (fun k => k = gb ∨ (.slice (some ⟨g, 0, none⟩) win cap : Value).ownBlock = some k) w ((w.drewN (nq + 1)).setCell ⟨g, nx, none⟩ (.int .u8 ((x.toNat : Nat) : Int))) := ⟨rfl, rfl, rfl, by simp, fun k hk hS => set_other (w := w) nx _ (fun e => hS (.inr (by rw [e]; rfl)))⟩
  clear W1 O1 k2 kf b0 b1 b2 f2 fg hu0
  generalize ((w.drewN (nq + 1)).setCell ⟨g, nx, none⟩ (.int .u8 ((x.toNat : Nat) : Int))) = w1 at *
  have k2 : w1.cell? ⟨gb, 2, none⟩ = some (.int .i64 (nx : Int)) := by simpa using (cell_of E1 2).1
  have kf := (cell_of E1 2).2
  go_wp2_with fail
  have E3 : (w1.setCell ⟨gb, 2, none⟩ (.int .i64 ((nx : Int) + 1))).heap[gb]? = some (.cells #[.int .i64 (win : Int), .slice (some ⟨g, 0, none⟩) win cap, .int .i64 ((nx : Int) + 1)] 231 (0, 0)) := (set_of E1 2 _).trans (by simp)
  have O3 : (w1.setCell ⟨gb, 2, none⟩ (.int .i64 ((nx : Int) + 1))).ownsRow base 5 1 (.slice (some ⟨g, 0, none⟩) win cap) win ((ringCells out win).set nx (.int .u8 ((x.toNat : Nat) : Int))) := ownsRow_over O2 (fun k hk => set_other 2 _ (fun e => row_ne O2 E1 (by decide) (e ▸ hk)))
  have F3 : Fr (fun k => k = gb ∨ (.slice (some ⟨g, 0, none⟩) win cap : Value).ownBlock = some k) w (w1.setCell ⟨gb, 2, none⟩ (.int .i64 ((nx : Int) + 1))) := ⟨F1.os, F1.tape, F1.output, by simpa using F1.size, fun k hk hS => (set_other 2 _ (fun e => hS (.inl e))).trans (F1.block k hk hS)⟩
  clear E1 O2 F1 k2 kf
  generalize (w1.setCell ⟨gb, 2, none⟩ (.int .i64 ((nx : Int) + 1))) = w3 at *
  have t0 : w3.cell? ⟨gb, 0, none⟩ = some (.int .i64 (win : Int)) := by simpa using (cell_of E3 0).1
  have t2 : w3.cell? ⟨gb, 2, none⟩ = some (.int .i64 ((nx : Int) + 1)) := by simpa using (cell_of E3 2).1
  have u2 := (cell_of E3 2).2
  have hO : w3.ownsRow base 5 1 (.slice (some ⟨g, 0, none⟩) win cap) (min (out.length + 1) win) (ringCells (out ++ [x]) win) := by
    rw [HMIN.out, HCELLS.out, ← HNX.out]; exact O3
  by_cases hE : nx + 1 = win
  · have dE : decide ((nx : Int) + 1 = (win : Int)) = true := decide_eq_true (by omega)
    have HM : (out.length + 1) % win = 0 := by rw [HMOD.out, ← HNX.out, if_pos hE]
    go_quiet (fail)
    go_wp2_with fail
    go_end0
    have hR := RingAt.done (v' := .slice (some ⟨g, 0, none⟩) win cap) (w2 := w3.setCell ⟨gb, 2, none⟩ (.int .i64 0)) (w3 := (w3.drewN nq).setCell ⟨gb, 2, none⟩ (.int .i64 0)) (x := x) h0 ⟨F3.os, F3.tape, F3.output, by simpa using F3.size, fun k hk hS => (set_other 2 _ (fun e => hS (.inl e))).trans (F3.block k hk hS)⟩ ((set_of E3 2 _).trans (by rw [HM]; simp)) (ownsRow_over hO (fun k hk => set_other 2 _ (fun e => row_ne hO E3 (by decide) (e ▸ hk)))) rfl rfl rfl rfl
    exact ⟨rfl, _, hR.1, hR.2, fun k hk => .inl hk⟩
  · have dE : decide ((nx : Int) + 1 = (win : Int)) = false := decide_eq_false (by omega)
    have HM : (out.length + 1) % win = nx + 1 := by rw [HMOD.out, ← HNX.out, if_neg hE]
    go_quiet (fail)
    go_wp2_with fail
    go_end0
    have hR := RingAt.done (v' := .slice (some ⟨g, 0, none⟩) win cap) (w2 := w3) (w3 := w3.drewN nq) (x := x) h0 F3 (by rw [HM]; exact E3) hO rfl rfl rfl rfl
    exact ⟨rfl, _, hR.1, hR.2, fun k hk => .inl hk⟩
theorem add_any (gb base : Nat) (v : Value) (win : Nat) (out : List UInt8) (x : UInt8) (w : World) (h : RingAt w gb base v win out) (hw : 1 ≤ win) (hw2 : win ≤ 32768) :
    Calls Tryz.prog 196 #[.pointer (some ⟨gb, 0, none⟩), .int .u8 ((x.toNat : Nat) : Int)] w fun e w' => e = .returned (.tuple #[]) ∧ ∃ v', RingAt w' gb base v' win (out ++ [x]) ∧ Fr (fun k => k = gb ∨ v.ownBlock = some k) w w' ∧ (∀ k, v'.ownBlock = some k → v.ownBlock = some k ∨ w.heap.size ≤ k) := by
  by_cases hn : out.length < win
  · exact add_few gb base v win out x w h hw hw2 hn
  · exact add_full gb base v win out x w h hw hw2 hn
end Go.Proofs.YtephkcdbnogdhaaGreatDoor.Pr
