/- The walk of putByte where bytes go to a Builder. -/
import Derived.Test.YtjfifmadldcjjaaGreatDoorUp
set_option linter.unusedVariables false
namespace Go.Proofs.YtjfifmadldcjjaaGreatDoor.Pr
open Go.RowKit Rf
open RfW (byteCells byteCells_snoc)
/-- what putByte does, wherever its bytes go -/
def PutOk (S : Sink) : Prop := ∀ (A : Adr) (s : ByteArray) (win most : Nat) (u : US) (x : UInt8) (w : World), UP S w A s win most u → u.out.length < most → most ≤ 16777216 → 1 ≤ win → win ≤ 32768 →
  Calls Tryz.prog 69 #[.pointer (some ⟨A.ub, 0, none⟩), .int .u8 ((x.toNat : Nat) : Int)] w fun e w' => e = .returned .nilIface ∧ UP S w' A s win most ⟨u.st, u.out ++ [x]⟩ ∧ PE A.base w w'
/-- a Builder in block ob -/
def sinkB (ob base : Nat) : Sink := ⟨.func (.func 10) #[.pointer (some ⟨ob, 0, none⟩)] #[], fun w out F => ∃ v, BldAt w ob base v out ∧ F = fun k => k = ob ∨ v.ownBlock = some k⟩
theorem BldAt.over {w w' : World} {ob base : Nat} {v : Value} {out : List UInt8} (h : BldAt w ob base v out) (e : ∀ k, k = ob ∨ v.ownBlock = some k → w'.heap[k]? = w.heap[k]?) (hs : w.heap.size ≤ w'.heap.size) : BldAt w' ob base v out := by
  obtain ⟨a, h1, h2, h3, h4, h5, h6⟩ := h
  exact ⟨a, (e ob (.inl rfl)).trans h1, h2, ownsRow_over h3 (fun k hk => e k (.inr hk)), h4, Nat.le_trans h5 hs, h6⟩
theorem sinkB_ok (ob base : Nat) : (sinkB ob base).Ok := by
  constructor
  · rintro w out F ⟨v, ⟨a, h1, h2, h3, h4⟩, rfl⟩ k hk
    rcases hk with rfl | hk
    · exact lt_of_some h1
    · exact (h3.lt k hk).2
  · rintro w w' out F ⟨v, h, rfl⟩ e hs
    exact ⟨v, h.over e hs, rfl⟩
/-- blocks of F and of the ring's row, as types tell -/
theorem Fr.pe {w w' : World} {base : Nat} {P : Nat → Prop} (h : Fr P w w') (hb : base ≤ w.heap.size) (h1 : ∀ k, P k → base ≤ k) (h2 : ∀ k cur T f, P k → w.heap[k]? = some (Obj.cells cur T f) → busyT T = true) : PE base w w' :=
  ⟨h.os, h.tape, h.output, h.size, fun k hk => h.block k (by omega) (fun hp => by have := h1 k hp; omega), fun k cur T f e hT => h.block k (lt_of_some e) (fun hp => by rw [h2 k cur T f hp e] at hT; cases hT)⟩
theorem row_busy {w : World} {base : Nat} {v : Value} {n : Nat} {xs : List Value} (h : w.ownsRow base 5 1 v n xs) {k : Nat} {cur : Array Value} {T : TypeId} {f : Nat × Nat} (hk : v.ownBlock = some k) (e : w.heap[k]? = some (Obj.cells cur T f)) : busyT T = true := by
  by_cases hT : T = 5
  · subst hT; decide
  · exact absurd hk (row_ne h e hT)
set_option maxRecDepth 10000 in
set_option maxHeartbeats 4000000 in
theorem putB (ob base : Nat) : PutOk (sinkB ob base) := by
  intro A s win most u x w h hlt hm hw1 hw2
  have h0 := h
  have hb := h.base
  obtain ⟨c0, c1, c2, c3⟩ := h.cells
  obtain ⟨vr, F, fx, h1, h2, h3, h4, h5, h6, h7, h8, h9, h10, h11, h12, h13, h14, h15⟩ := h
  obtain ⟨vb, hB, hF⟩ := h7
  have f2 := (cell_of h5 2).2
  have hc3 : w.cell? ⟨A.ub, 3, none⟩ = some (.func (.func 10) #[.pointer (some ⟨ob, 0, none⟩)] #[]) := c3
  clear c0 c3
  obtain ⟨l, hl⟩ : ∃ l, l = most - u.out.length := ⟨_, rfl⟩
  rw [← hl] at c2
  have hl1 : 1 ≤ l := by omega
  have hl2 : l ≤ 16777216 := by omega
  have HL : Hid (l = most - u.out.length) := hl
  clear hl
  -- the world behind 'left--'
  have g5 : (w.setCell ⟨A.ub, 2, none⟩ (.int .i64 ((l : Int) - 1))).heap[A.ub]? = some (.cells #[.pointer (some ⟨A.rb, 0, none⟩), .pointer (some ⟨A.gb, 0, none⟩), .int .i64 ((l : Int) - 1), (sinkB ob base).fv, .pointer fx] 79 (0, 0)) := (set_of h5 2 _).trans (by simp)
  have hug : A.gb ≠ A.ub := ne_of_type h4.1 h5 (by decide)
  have hrow : vr.ownBlock ≠ some A.ub := row_ne h4.2.1 h5 (by decide)
  have g4 : RingAt (w.setCell ⟨A.ub, 2, none⟩ (.int .i64 ((l : Int) - 1))) A.gb A.base vr win u.out := ⟨(set_other 2 _ hug).trans h4.1, ownsRow_over h4.2.1 (fun k hk => set_other 2 _ (fun e => hrow (e ▸ hk))), by simpa using h4.2.2⟩
  have gB : BldAt (w.setCell ⟨A.ub, 2, none⟩ (.int .i64 ((l : Int) - 1))) ob base vb u.out := hB.over (fun k hk => set_other 2 _ (by have := (h8 k (by rw [hF]; exact hk)); omega)) (by simp)
  have gP : PE A.base w (w.setCell ⟨A.ub, 2, none⟩ (.int .i64 ((l : Int) - 1))) := ⟨rfl, rfl, rfl, by simp, fun k hk => set_other 2 _ (by omega), fun k cur T f e hT => set_other 2 _ (fun e2 => by rw [e2, h5] at e; simp at e; rw [← e.2.1] at hT; revert hT; decide)⟩
  have gO : ∀ k, k ≠ A.ub → (w.setCell ⟨A.ub, 2, none⟩ (.int .i64 ((l : Int) - 1))).heap[k]? = w.heap[k]? := fun k hk => set_other 2 _ hk
  have gZ : (w.setCell ⟨A.ub, 2, none⟩ (.int .i64 ((l : Int) - 1))).heap.size = w.heap.size := by simp
  go_enter Tryz.func69, Tryz.ntmps69
  go_wp2_with fail
  have HZ : Hid _ := gZ
  clear gZ
  generalize (w.setCell ⟨A.ub, 2, none⟩ (.int .i64 ((l : Int) - 1))) = w1 at *
  refine (add_any A.gb A.base vr win u.out x _ g4 hw1 hw2).mono ?_
  rintro e w2 ⟨rfl, vr', r1, r2, r3⟩
  have hgu : A.gb ≠ A.ub := hug
  have k5 : w2.heap[A.ub]? = _ := (r2.block A.ub (lt_of_some g5) (fun e => e.elim (fun e => hug e.symm) (fun e => row_ne g4.2.1 g5 (by decide) e))).trans g5
  have kc3 : w2.cell? ⟨A.ub, 3, none⟩ = some (.func (.func 10) #[.pointer (some ⟨ob, 0, none⟩)] #[]) := by simpa [sinkB] using (cell_of k5 3).1
  have kB : BldAt w2 ob base vb u.out := gB.over (fun k hk => r2.block k (by have := h8 k (by rw [hF]; exact hk); have h9 := (sinkB_ok ob base).lt ⟨vb, hB, rfl⟩ k hk; rw [HZ.out]; exact h9) (fun e => by
    have := h8 k (by rw [hF]; exact hk)
    rcases e with e | e
    · exact this.2.2.2.1 e
    · exact this.2.2.2.2.2 e)) r2.size
  have kP : PE A.base w1 w2 := r2.pe (by rw [HZ.out]; exact hb) (fun k hk => by
    rcases hk with rfl | hk
    · exact h14
    · exact (g4.2.1.lt k hk).1) (fun k cur T f hk e => by
    rcases hk with rfl | hk
    · rw [g4.1] at e; simp at e; rw [← e.2.1]; decide
    · exact row_busy g4.2.1 hk e)
  clear c1 c2 hc3
  go_wp2_with fail
  refine (write_any ob base vb u.out x _ kB (by omega)).mono ?_
  rintro e w3 ⟨rfl, vb', b1, b2, b3⟩
  go_wp2_with fail
  go_ret
  have hobu : ∀ k, k = ob ∨ vb.ownBlock = some k → A.base ≤ k ∧ k ≠ A.tb ∧ k ≠ A.rb ∧ k ≠ A.gb ∧ k ≠ A.ub ∧ vr.ownBlock ≠ some k := fun k hk => h8 k (by rw [hF]; exact hk)
  have hPk : PE A.base w2 w3 := b2.pe (Nat.le_trans hb (by rw [← HZ.out]; exact r2.size)) (fun k hk => (hobu k hk).1) (fun k cur T f hk e => by
    obtain ⟨a, q1, q2, q3, q4⟩ := kB
    rcases hk with rfl | hk
    · rw [q1] at e; simp at e; rw [← e.2.1]; decide
    · exact row_busy q3 hk e)
  have hPE : PE A.base w w3 := gP.trans (kP.trans hPk)
  have hs1 : w1.heap.size ≤ w2.heap.size := r2.size
  have hkeep : ∀ k, k < w.heap.size → k ≠ A.ub → k ≠ A.gb → vr.ownBlock ≠ some k → ¬ (k = ob ∨ vb.ownBlock = some k) → w3.heap[k]? = w.heap[k]? := fun k hk a1 a2 a3 a4 =>
    (b2.block k (by have := HZ.out; omega) a4).trans ((r2.block k (by have := HZ.out; omega) (fun e => e.elim a2 a3)).trans (gO k a1))
  have hl := h2.lts
  have hrt := h2.types h4.1 (by decide) (by decide)
  have hut := h2.types h5 (by decide) (by decide)
  have htr : ∀ k, (k = A.tb ∨ k = A.rb) → vr.ownBlock ≠ some k := by
    obtain ⟨c, hc, t, q1, q2, q3, q4, q5⟩ := h2
    rintro k (rfl | rfl)
    · exact row_ne h4.2.1 q4 (by decide)
    · exact row_ne h4.2.1 q5 (by decide)
  have hr' : Rd w3 A.tb A.rb s u.st.pos := by
    obtain ⟨c, hc, hq⟩ := h2
    refine ⟨c, hc, hq.over (hkeep A.tb hl.1 (Ne.symm hut.1) (Ne.symm hrt.1) (htr _ (.inl rfl)) (fun e => (hobu _ e).2.1 rfl)) (hkeep A.rb hl.2 (Ne.symm hut.2) (Ne.symm hrt.2) (htr _ (.inr rfl)) (fun e => (hobu _ e).2.2.1 rfl))⟩
  have hrk : RingAt w3 A.gb A.base vr' win (u.out ++ [x]) := by
    have hnF : ∀ k, vr'.ownBlock = some k → ¬ (k = ob ∨ vb.ownBlock = some k) := fun k hk hF' => by
      have h1 := hobu k hF'
      have h9 := (sinkB_ok ob base).lt ⟨vb, hB, rfl⟩ k hF'
      rcases r3 k hk with e | e
      · exact h1.2.2.2.2.2 e
      · have := HZ.out; omega
    refine ⟨(b2.block A.gb (lt_of_some r1.1) (fun e => (hobu _ e).2.2.2.1 rfl)).trans r1.1, ownsRow_over r1.2.1 (fun k hk => b2.block k (r1.2.1.lt k hk).2 (hnF k hk)), Nat.le_trans r1.2.2 b2.size⟩
  refine ⟨rfl, ⟨vr', (fun k => k = ob ∨ vb'.ownBlock = some k), fx, h1, hr', by simp; omega, hrk, ?_, h6.imp id (fun ⟨kf, e, ht⟩ => ⟨kf, e, ht.pe hPE⟩), ⟨vb', b1, rfl⟩, ?_, h9.over (hPE.low _ (by omega)), h10.over (hPE.low _ (by omega)), h11, h12, h13, h14, h15⟩, hPE⟩
  · refine (b2.block A.ub (lt_of_some k5) (fun e => (hobu _ e).2.2.2.2.1 rfl)).trans (k5.trans ?_)
    have : (l : Int) - 1 = ((most - (u.out ++ [x]).length : Nat) : Int) := by
      rw [List.length_append, List.length_singleton]
      have := HL.out; omega
    rw [this]
  · intro k hk
    have hnew : (k = ob ∨ vb.ownBlock = some k) ∨ w2.heap.size ≤ k := by
      rcases hk with e | hk
      · exact .inl (.inl e)
      · rcases b3 k hk with e | e
        · exact .inl (.inr e)
        · exact .inr e
    have hlt2 : ∀ k, vr'.ownBlock = some k → k < w2.heap.size := fun k hk => (r1.2.1.lt k hk).2
    rcases hnew with e | e
    · have hq := hobu k e
      refine ⟨hq.1, hq.2.1, hq.2.2.1, hq.2.2.2.1, hq.2.2.2.2.1, fun e2 => ?_⟩
      have h9 := (sinkB_ok ob base).lt ⟨vb, hB, rfl⟩ k e
      rcases r3 k e2 with e3 | e3
      · exact hq.2.2.2.2.2 e3
      · have := HZ.out; omega
    · have := HZ.out
      have hgl := lt_of_some r1.1
      have hul := lt_of_some k5
      exact ⟨by omega, by omega, by omega, by omega, by omega, fun e2 => by have := hlt2 k e2; omega⟩
end Go.Proofs.YtjfifmadldcjjaaGreatDoor.Pr
