/- The unpacker in memory; what a step may turn; room. -/
import Derived.Test.YtjfifmadldcjjaaGreatDoorRingAdd
set_option linter.unusedVariables false
namespace Go.Proofs.YtjfifmadldcjjaaGreatDoor.Pr
open Go.RowKit Rf
open RfW (byteCells byteCells_snoc)
/-- where things lie -/
structure Adr where
  base : Nat
  tb : Nat
  rb : Nat
  gb : Nat
  ub : Nat
  eb : Addr
/-- where bytes go: a function's value; what holds of the memory behind it, and in which blocks -/
structure Sink where
  fv : Value
  K : World → List UInt8 → (Nat → Prop) → Prop
structure Sink.Ok (S : Sink) : Prop where
  lt : ∀ {w out F}, S.K w out F → ∀ k, F k → k < w.heap.size
  stable : ∀ {w w' out F}, S.K w out F → (∀ k, F k → w'.heap[k]? = w.heap[k]?) → w.heap.size ≤ w'.heap.size → S.K w' out F
/-- types of blocks that may turn -/
def busyT (T : TypeId) : Bool := T == 5 || T == 39 || T == 74 || T == 116 || T == 79 || T == 32 || T == 108
/-- nothing below base has turned, and no block of another type -/
structure PE (base : Nat) (w w' : World) : Prop where
  os : w'.os = w.os
  tape : w'.tape = w.tape
  output : w'.output = w.output
  size : w.heap.size ≤ w'.heap.size
  low : ∀ k, k < base → w'.heap[k]? = w.heap[k]?
  other : ∀ (k : Nat) (cur : Array Value) (T : TypeId) (f : Nat × Nat), w.heap[k]? = some (Obj.cells cur T f) → busyT T = false → w'.heap[k]? = w.heap[k]?
theorem PE.refl (base : Nat) (w : World) : PE base w w := ⟨rfl, rfl, rfl, Nat.le_refl _, fun _ _ => rfl, fun _ _ _ _ _ _ => rfl⟩
theorem PE.trans {base : Nat} {u v w : World} (h : PE base u v) (k : PE base v w) : PE base u w :=
  ⟨k.os.trans h.os, k.tape.trans h.tape, k.output.trans h.output, Nat.le_trans h.size k.size, fun i hi => (k.low i hi).trans (h.low i hi), fun i cur T f e hT => by
    have h1 := h.other i cur T f e hT
    exact (k.other i cur T f (h1.trans e) hT).trans h1⟩
theorem PE.below {base : Nat} {w w' : World} (h : PE base w w') : Below base w w' := ⟨h.os, h.tape, h.output, h.size, h.low⟩
theorem TabM.pe {base : Nat} {w w' : World} {k : Nat} {mean : Nat → Nat × Nat × Nat} {L : List Nat} (h : TabM w k mean L) (e : PE base w w') : TabM w' k mean L := by
  obtain ⟨vb, vcur, ⟨cur, a, b⟩, c, d⟩ := h
  exact ⟨vb, vcur, ⟨cur, (e.other k _ _ _ a (by decide)).trans a, b⟩, (e.other vb _ _ _ c (by decide)).trans c, d⟩
theorem TabsIs.pe {base : Nat} {w w' : World} {k : Nat} {A B : List Nat} (h : TabsIs w k A B) (e : PE base w w') : TabsIs w' k A B := by
  obtain ⟨ka, kb, h1, h2, h3⟩ := h
  exact ⟨ka, kb, (e.other k _ _ _ h1 (by decide)).trans h1, h2.pe e, h3.pe e⟩
theorem Rd.lts {w : World} {tb rb : Nat} {s : ByteArray} {pos : Nat} (h : Rd w tb rb s pos) : tb < w.heap.size ∧ rb < w.heap.size := by
  obtain ⟨c, _, t, _, _, _, h4, h5⟩ := h; exact ⟨lt_of_some h4, lt_of_some h5⟩
theorem Rd.types {w : World} {tb rb : Nat} {s : ByteArray} {pos : Nat} (h : Rd w tb rb s pos) {k : Nat} {cur : Array Value} {T : TypeId} {f : Nat × Nat} (hk : w.heap[k]? = some (.cells cur T f)) (h1 : T ≠ 39) (h2 : T ≠ 74) : k ≠ tb ∧ k ≠ rb := by
  obtain ⟨c, _, h⟩ := h; exact h.types hk h1 h2
theorem RF.pe {w w' : World} {base tb rb : Nat} {s : ByteArray} {pos : Nat} (h : RF tb rb w w') (hr : Rd w tb rb s pos) (h1 : base ≤ tb) (h2 : base ≤ rb) : PE base w w' := by
  have hl := hr.lts
  refine ⟨h.os, h.tape, h.output, h.size, fun k hk => h.block k (by omega) (by omega) (by omega), fun k cur T f e hT => ?_⟩
  have hn := hr.types e (fun e => by rw [e] at hT; revert hT; decide) (fun e => by rw [e] at hT; revert hT; decide)
  exact h.block k (lt_of_some e) hn.1 hn.2
/-- the order of the nineteen as the program's text lays it -/
def OrderIs (w : World) : Prop := ∀ i, i < 19 → w.cell? ⟨2, i, none⟩ = some (.int .u8 ((order.getD i 0 : Nat) : Int))
theorem OrderIs.over {w w' : World} (h : OrderIs w) (e : w'.heap[2]? = w.heap[2]?) : OrderIs w' := by
  intro i hi
  have := h i hi
  unfold World.cell? at this ⊢
  rw [e]; exact this
/-- the unpacker, where nothing has gone wrong -/
def UP (S : Sink) (w : World) (A : Adr) (s : ByteArray) (win most : Nat) (u : US) : Prop := ∃ vr F fx,
  u.st.bad = false ∧ Rd w A.tb A.rb s u.st.pos ∧ u.out.length ≤ most ∧ RingAt w A.gb A.base vr win u.out ∧
  w.heap[A.ub]? = some (.cells #[.pointer (some ⟨A.rb, 0, none⟩), .pointer (some ⟨A.gb, 0, none⟩), .int .i64 ((most - u.out.length : Nat) : Int), S.fv, .pointer fx] 79 (0, 0)) ∧
  (fx = none ∨ ∃ kf, fx = some ⟨kf, 0, none⟩ ∧ TabsIs w kf fixList (List.replicate 32 5)) ∧ S.K w u.out F ∧
  (∀ k, F k → A.base ≤ k ∧ k ≠ A.tb ∧ k ≠ A.rb ∧ k ≠ A.gb ∧ k ≠ A.ub ∧ vr.ownBlock ≠ some k) ∧ EndIs w A.eb ∧ OrderIs w ∧
  3 ≤ A.base ∧ A.base ≤ A.tb ∧ A.base ≤ A.rb ∧ A.base ≤ A.gb ∧ A.base ≤ A.ub
/-- the unpacker behind an error -/
def UE (w : World) (A : Adr) (s : ByteArray) : Prop := RdE w A.tb A.rb s ∧ ∃ g l f x, w.heap[A.ub]? = some (.cells #[.pointer (some ⟨A.rb, 0, none⟩), g, l, f, x] 79 (0, 0))
/-- how a step ends -/
def Res (S : Sink) (A : Adr) (s : ByteArray) (win most : Nat) (w : World) (U : US) (e : Ending) (w' : World) : Prop :=
  (U.st.bad = false ∧ e = .returned .nilIface ∧ UP S w' A s win most U ∧ PE A.base w w') ∨
  (U.st.bad = true ∧ (∃ a, e = .returned (.iface 62 (.pointer (some a)))) ∧ UE w' A s ∧ PE A.base w w')
theorem UP.rd {S : Sink} {w w' : World} {A : Adr} {s : ByteArray} {win most : Nat} {u : US} (hS : S.Ok) (h : UP S w A s win most u) (p : Nat) (hr : Rd w' A.tb A.rb s p) (hf : RF A.tb A.rb w w') : UP S w' A s win most ⟨⟨p, false⟩, u.out⟩ ∧ PE A.base w w' := by
  obtain ⟨vr, F, fx, h1, h2, h3, h4, h5, h6, h7, h8, h9, h10, h11, h12, h13, h14, h15⟩ := h
  have hp : PE A.base w w' := hf.pe h2 h12 h13
  have hgb := h2.types h4.1 (by decide) (by decide)
  have hub := h2.types h5 (by decide) (by decide)
  have hl := h2.lts
  refine ⟨⟨vr, F, fx, rfl, hr, h3, ⟨?_, ?_, ?_⟩, ?_, ?_, ?_, h8, ?_, ?_, h11, h12, h13, h14, h15⟩, hp⟩
  · exact (hf.block _ (lt_of_some h4.1) hgb.1 hgb.2).trans h4.1
  · obtain ⟨c, hc, h2⟩ := h2
    obtain ⟨t, _, _, _, g4, g5⟩ := h2
    exact ownsRow_over h4.2.1 (fun k hk => hf.block k (h4.2.1.lt k hk).2 (fun e => row_ne h4.2.1 g4 (by decide) (e ▸ hk)) (fun e => row_ne h4.2.1 g5 (by decide) (e ▸ hk)))
  · exact Nat.le_trans h4.2.2 hf.size
  · exact (hf.block _ (lt_of_some h5) hub.1 hub.2).trans h5
  · exact h6.imp id (fun ⟨kf, e, h⟩ => ⟨kf, e, h.pe hp⟩)
  · exact hS.stable h7 (fun k hk => hf.block k (hS.lt h7 k hk) (h8 k hk).2.1 (h8 k hk).2.2.1) hf.size
  · exact h9.over (hp.low _ (by omega))
  · exact h10.over (hp.low _ (by omega))
theorem UP.ue {S : Sink} {w : World} {A : Adr} {s : ByteArray} {win most : Nat} {u : US} (h : UP S w A s win most u) : UE w A s := by
  obtain ⟨vr, F, fx, h1, h2, h3, h4, h5, h6, h7, h8, h9, h10, h11, h12, h13, h14, h15⟩ := h
  obtain ⟨c, hc, h2⟩ := h2
  exact ⟨⟨_, c, by omega, h2⟩, _, _, _, _, h5⟩
/-- an error that the reader tells -/
theorem UP.rdE {S : Sink} {w w' : World} {A : Adr} {s : ByteArray} {win most : Nat} {u : US} (h : UP S w A s win most u) (hr : RdE w' A.tb A.rb s) (hf : RF A.tb A.rb w w') : UE w' A s ∧ PE A.base w w' := by
  obtain ⟨vr, F, fx, h1, h2, h3, h4, h5, h6, h7, h8, h9, h10, h11, h12, h13, h14, h15⟩ := h
  have hub := h2.types h5 (by decide) (by decide)
  exact ⟨⟨hr, _, _, _, _, (hf.block _ (lt_of_some h5) hub.1 hub.2).trans h5⟩, hf.pe h2 h12 h13⟩
/-- memory that is laid new -/
theorem UP.alloc {S : Sink} {w : World} {A : Adr} {s : ByteArray} {win most : Nat} {u : US} (hS : S.Ok) (h : UP S w A s win most u) (o : Obj) : UP S (w.alloc o) A s win most u ∧ PE A.base w (w.alloc o) := by
  obtain ⟨c, hc, hr⟩ : Rd w A.tb A.rb s u.st.pos := by obtain ⟨_, _, _, _, h2, _⟩ := h; exact h2
  have h0 : u.st.bad = false := by obtain ⟨_, _, _, h1, _⟩ := h; exact h1
  have h3 := h.rd hS u.st.pos ⟨c, hc, hr.alloc o⟩ ((RF.refl _ _ w).alloc o)
  rw [← h0] at h3
  exact h3
theorem UP.grow {S : Sink} {w w' : World} {A : Adr} {s : ByteArray} {win most : Nat} {u : US} (hS : S.Ok) (h : UP S w A s win most u) (hb : Below w.heap.size w w') : UP S w' A s win most u ∧ PE A.base w w' := by
  obtain ⟨c, hc, hr⟩ : Rd w A.tb A.rb s u.st.pos := by obtain ⟨_, _, _, _, h2, _⟩ := h; exact h2
  have h0 : u.st.bad = false := by obtain ⟨_, _, _, h1, _⟩ := h; exact h1
  have hl := Rd.lts ⟨c, hc, hr⟩
  have h3 := h.rd hS (w' := w') u.st.pos ⟨c, hc, hr.over (hb.block _ hl.1) (hb.block _ hl.2)⟩ ⟨hb.os, hb.tape, hb.output, hb.size, fun k hk _ _ => hb.block k hk⟩
  rw [← h0] at h3
  exact h3
theorem UE.alloc {w : World} {A : Adr} {s : ByteArray} (h : UE w A s) (o : Obj) : UE (w.alloc o) A s := by
  obtain ⟨h1, g, l, f, x, h2⟩ := h
  exact ⟨h1.alloc o, g, l, f, x, (alloc_old (lt_of_some h2)).trans h2⟩
theorem UP.cells {S : Sink} {w : World} {A : Adr} {s : ByteArray} {win most : Nat} {u : US} (h : UP S w A s win most u) : w.cell? ⟨A.ub, 0, none⟩ = some (.pointer (some ⟨A.rb, 0, none⟩)) ∧ w.cell? ⟨A.ub, 1, none⟩ = some (.pointer (some ⟨A.gb, 0, none⟩)) ∧ w.cell? ⟨A.ub, 2, none⟩ = some (.int .i64 ((most - u.out.length : Nat) : Int)) ∧ w.cell? ⟨A.ub, 3, none⟩ = some S.fv := by
  obtain ⟨vr, F, fx, h1, h2, h3, h4, h5, h6, h7, h8, h9, h10, h11, h12, h13, h14, h15⟩ := h
  exact ⟨by simpa using (cell_of h5 0).1, by simpa using (cell_of h5 1).1, by simpa using (cell_of h5 2).1, by simpa using (cell_of h5 3).1⟩
theorem UP.facts {S : Sink} {w : World} {A : Adr} {s : ByteArray} {win most : Nat} {u : US} (h : UP S w A s win most u) : u.st.bad = false ∧ Rd w A.tb A.rb s u.st.pos ∧ u.out.length ≤ most ∧ EndIs w A.eb ∧ 0 ≠ A.tb ∧ 0 ≠ A.rb := by
  obtain ⟨vr, F, fx, h1, h2, h3, h4, h5, h6, h7, h8, h9, h10, h11, h12, h13, h14, h15⟩ := h
  exact ⟨h1, h2, h3, h9, by omega, by omega⟩
theorem PE.alloc (base : Nat) (w : World) (o : Obj) (h : base ≤ w.heap.size) : PE base w (w.alloc o) := ⟨rfl, rfl, rfl, by simp, fun k hk => alloc_old (by omega), fun k cur T f e _ => alloc_old (lt_of_some e)⟩
theorem UP.base {S : Sink} {w : World} {A : Adr} {s : ByteArray} {win most : Nat} {u : US} (h : UP S w A s win most u) : A.base ≤ w.heap.size := by
  obtain ⟨vr, F, fx, h1, h2, h3, h4, h5, h6, h7, h8, h9, h10, h11, h12, h13, h14, h15⟩ := h
  have := h2.lts; omega
set_option maxRecDepth 10000 in
set_option maxHeartbeats 2000000 in
theorem room_any (S : Sink) (A : Adr) (s : ByteArray) (win most n : Nat) (u : US) (w : World) (hS : S.Ok) (h : UP S w A s win most u) (hm : most ≤ 16777216) (hn : n ≤ 1000000) :
    Calls Tryz.prog 68 #[.pointer (some ⟨A.ub, 0, none⟩), .int .i64 (n : Int)] w fun e w' =>
      (u.out.length + n ≤ most ∧ e = .returned .nilIface ∧ w' = w) ∨ (¬ u.out.length + n ≤ most ∧ (∃ a, e = .returned (.iface 62 (.pointer (some a)))) ∧ UE w' A s ∧ PE A.base w w') := by
  obtain ⟨c0, c1, c2, c3⟩ := h.cells
  have hf := h.facts
  have hol : u.out.length ≤ most := hf.2.2.1
  clear c0 c1 c3 hf
  obtain ⟨l, hl⟩ : ∃ l, l = most - u.out.length := ⟨_, rfl⟩
  rw [← hl] at c2
  have hl2 : l ≤ 16777216 := by omega
  by_cases hle : n ≤ l
  · have d1 : decide ((l : Int) < (n : Int)) = false := decide_eq_false (by omega)
    have H : Hid (u.out.length + n ≤ most) := (by omega : _ ≤ _)
    clear hl
    go_enter Tryz.func68, Tryz.ntmps68
    go_wp2_with fail
    go_ret
    exact .inl ⟨H.out, rfl, rfl⟩
  · have d1 : decide ((l : Int) < (n : Int)) = true := decide_eq_true (by omega)
    have H : Hid (¬ u.out.length + n ≤ most) := (by omega : ¬ _)
    clear hl
    go_enter Tryz.func68, Tryz.ntmps68
    go_wp2_with fail
    refine (mal_any _ _).mono ?_
    rintro e w3 ⟨rfl, rfl⟩
    go_wp2_with fail
    go_ret
    exact .inr ⟨H.out, ⟨_, rfl⟩, h.ue.alloc _, PE.alloc _ _ _ h.base⟩
end Go.Proofs.YtjfifmadldcjjaaGreatDoor.Pr
