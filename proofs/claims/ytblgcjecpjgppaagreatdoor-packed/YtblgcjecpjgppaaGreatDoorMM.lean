/- The unpacker in memory; what a step may turn; room. -/
import Derived.Test.YtblgcjecpjgppaaGreatDoorMA
import Derived.Test.YtblgcjecpjgppaaGreatDoorML
set_option linter.unusedVariables false
namespace Go.Proofs.YtblgcjecpjgppaaGreatDoor.Pr
open Go.RowKit Rf
open RfW (byteCells byteCells_snoc)
/-- where things lie -/
structure Adr where
  tb : Src
  rb : Nat
  gb : Nat
  ub : Nat
/-- what lies below never turns -/
abbrev Adr.base (A : Adr) : Nat := A.tb.base
/-- where bytes go: a function's value; what holds of the memory behind it, and in which blocks; behind which bytes it refuses -/
structure Sink where
  fv : Value
  K : World → List UInt8 → (Nat → Prop) → Prop
  stop : List UInt8 → Prop
structure Sink.Ok (S : Sink) (base : Nat) : Prop where
  lt : ∀ {w out F}, S.K w out F → ∀ k, F k → k < w.heap.size
  stable : ∀ {w w' out F}, S.K w out F → (∀ k, F k ∨ k < base → w'.heap[k]? = w.heap[k]?) → w.heap.size ≤ w'.heap.size → S.K w' out F
/-- types of blocks that may turn -/
def busyT (T : TypeId) : Bool := srcT T || (T == 5 || T == 164 || T == 216 || T == 169 || T == 72 || T == 152 || T == 275 || T == 39 || T == 120)
theorem busy_src {T : TypeId} (h : busyT T = false) : srcT T = false := (Bool.or_eq_false_iff.1 h).1
/-- nothing below base has turned, and no block of another type -/
structure PE (base : Nat) (w w' : World) : Prop where
  os : w'.os = w.os
  tape : w'.tape = w.tape
  output : w'.output = w.output
  size : w.heap.size ≤ w'.heap.size
  low : ∀ k, k < base → w'.heap[k]? = w.heap[k]?
  other : ∀ (k : Nat) (cur : Array Value) (T : TypeId) (f : Nat × Nat), w.heap[k]? = some (Obj.cells cur T f) → busyT T = false → w'.heap[k]? = w.heap[k]?
theorem PE.refl (base : Nat) (w : World) : PE base w w := ⟨rfl, rfl, rfl, Nat.le_refl _, fun _ _ => rfl, fun _ _ _ _ _ _ => rfl⟩
theorem PE.trans {base : Nat} {u v w : World} (h : PE base u v) (k : PE base v w) : PE base u w :=
  ⟨k.os.trans h.os, k.tape.trans h.tape, k.output.trans h.output, Nat.le_trans h.size k.size, fun i hi => (k.low i hi).trans (h.low i hi), fun i cur T f e hT => by
    have h1 := h.other i cur T f e hT
    exact (k.other i cur T f (h1.trans e) hT).trans h1⟩
theorem PE.below {base : Nat} {w w' : World} (h : PE base w w') : Below base w w' := ⟨h.os, h.tape, h.output, h.size, h.low⟩
theorem PE.drewN (base : Nat) (w : World) (n : Nat) : PE base w (w.drewN n) := ⟨rfl, rfl, rfl, Nat.le_refl _, fun _ _ => rfl, fun _ _ _ _ _ _ => rfl⟩
theorem TabM.pe {base : Nat} {w w' : World} {k : Nat} {mean : Nat → Nat × Nat × Nat} {L : List Nat} (h : TabM w k mean L) (e : PE base w w') : TabM w' k mean L := by
  obtain ⟨vb, vcur, ⟨cur, a, b⟩, c, d⟩ := h
  exact ⟨vb, vcur, ⟨cur, (e.other k _ _ _ a (by decide)).trans a, b⟩, (e.other vb _ _ _ c (by decide)).trans c, d⟩
theorem TabsIs.pe {base : Nat} {w w' : World} {k : Nat} {A B : List Nat} (h : TabsIs w k A B) (e : PE base w w') : TabsIs w' k A B := by
  obtain ⟨ka, kb, h1, h2, h3⟩ := h
  exact ⟨ka, kb, (e.other k _ _ _ h1 (by decide)).trans h1, h2.pe e, h3.pe e⟩
theorem RF.pe {w w' : World} {tb : Src} {rb : Nat} {s : ByteArray} {pos : Nat} (h : RF tb rb w w') (hr : Rd w tb rb s pos) : PE tb.base w w' := by
  have hl := hr.lts
  have hOk : tb.Ok := by obtain ⟨_, _, _, _, _, _, _, h5, _⟩ := hr; exact h5
  refine ⟨h.os, h.tape, h.output, h.size, fun k hk => h.block k (by omega) (fun e => by have := hOk.low k e; omega) (by omega), fun k cur T f e hT => ?_⟩
  have hn := hr.types e (busy_src hT) (fun e => by rw [e] at hT; revert hT; decide)
  exact h.block k (lt_of_some e) hn.1 hn.2
/-- the order of the nineteen as the program's text lays it -/
def OrderIs (w : World) : Prop := ∀ i, i < 19 → w.cell? ⟨5, i, none⟩ = some (.int .u8 ((order.getD i 0 : Nat) : Int))
theorem OrderIs.over {w w' : World} (h : OrderIs w) (e : w'.heap[5]? = w.heap[5]?) : OrderIs w' := by
  intro i hi
  have := h i hi
  unfold World.cell? at this ⊢
  rw [e]; exact this
theorem row_src {w : World} {base : Nat} {v : Value} {n : Nat} {xs : List Value} (h : w.ownsRow base 5 1 v n xs) {tb : Src} (hS : tb.Ok) (hK : tb.KE w) {k : Nat} (hk : v.ownBlock = some k) : ¬ tb.F k := fun hF => by
  obtain ⟨cur, T, f, h1, h2⟩ := hS.typ hK hF
  exact row_ne h h1 (fun e => by rw [e] at h2; revert h2; decide) hk
/-- the unpacker, where nothing has gone wrong -/
def UP (S : Sink) (w : World) (A : Adr) (s : ByteArray) (win most : Nat) (u : US) : Prop := ∃ vr F fx,
  u.st.bad = false ∧ Rd w A.tb A.rb s u.st.pos ∧ u.out.length ≤ most ∧ RingAt w A.gb A.base vr win u.out ∧
  w.heap[A.ub]? = some (.cells #[.pointer (some ⟨A.rb, 0, none⟩), .pointer (some ⟨A.gb, 0, none⟩), .int .i64 ((most - u.out.length : Nat) : Int), S.fv, .pointer fx] 169 (0, 0)) ∧
  (fx = none ∨ ∃ kf, fx = some ⟨kf, 0, none⟩ ∧ TabsIs w kf fixList (List.replicate 32 5)) ∧ S.K w u.out F ∧
  (∀ k, F k → A.base ≤ k ∧ ¬ A.tb.F k ∧ k ≠ A.rb ∧ k ≠ A.gb ∧ k ≠ A.ub ∧ vr.ownBlock ≠ some k) ∧ A.tb.Ok ∧ OrderIs w ∧
  6 ≤ A.base ∧ S.Ok A.base ∧ A.base ≤ A.rb ∧ A.base ≤ A.gb ∧ A.base ≤ A.ub
/-- the unpacker behind an error -/
def UE (w : World) (A : Adr) (s : ByteArray) : Prop := RdE w A.tb A.rb s ∧ ∃ g l f x, w.heap[A.ub]? = some (.cells #[.pointer (some ⟨A.rb, 0, none⟩), g, l, f, x] 169 (0, 0))
/-- something is not as it must be, or the sink refuses what comes out -/
def Stop (S : Sink) (U : US) : Prop := U.st.bad = true ∨ ∃ p, S.stop p ∧ p <+: U.out
theorem Stop.mono {S : Sink} {U V : US} (h : Stop S U) (h1 : U.st.bad = true → V.st.bad = true) (h2 : U.out <+: V.out) : Stop S V := h.imp h1 (fun ⟨p, a, b⟩ => ⟨p, a, b.trans h2⟩)
/-- how a step ends -/
def Res (S : Sink) (A : Adr) (s : ByteArray) (win most : Nat) (w : World) (U : US) (e : Ending) (w' : World) : Prop :=
  (U.st.bad = false ∧ e = .returned .nilIface ∧ UP S w' A s win most U ∧ PE A.base w w') ∨
  ((∃ T a, e = .returned (.iface T (.pointer (some a))) ∧ Why A.tb w' T a (Stop S U)) ∧ UE w' A s ∧ PE A.base w w')
theorem UP.rd {S : Sink} {w w' : World} {A : Adr} {s : ByteArray} {win most : Nat} {u : US} (h : UP S w A s win most u) (p : Nat) (hr : Rd w' A.tb A.rb s p) (hf : RF A.tb A.rb w w') : UP S w' A s win most ⟨⟨p, false⟩, u.out⟩ ∧ PE A.base w w' := by
  obtain ⟨vr, F, fx, h1, h2, h3, h4, h5, h6, h7, h8, h9, h10, h11, h12, h13, h14, h15⟩ := h
  have hp : PE A.base w w' := hf.pe h2
  have hgb := h2.types h4.1 (by decide) (by decide)
  have hub := h2.types h5 (by decide) (by decide)
  have hl := h2.lts
  refine ⟨⟨vr, F, fx, rfl, hr, h3, ⟨?_, ?_, ?_⟩, ?_, ?_, ?_, h8, h9, ?_, h11, h12, h13, h14, h15⟩, hp⟩
  · exact (hf.block _ (lt_of_some h4.1) hgb.1 hgb.2).trans h4.1
  · have hke : A.tb.KE w := by obtain ⟨_, _, _, _, _, _, h4, h5, _⟩ := h2; exact h5.ke h4
    obtain ⟨c, hc, t, _, _, _, g4, _, g5⟩ := h2
    exact ownsRow_over h4.2.1 (fun k hk => hf.block k (h4.2.1.lt k hk).2 (row_src h4.2.1 h9 hke hk) (fun e => row_ne h4.2.1 g5 (by decide) (e ▸ hk)))
  · exact Nat.le_trans h4.2.2 hf.size
  · exact (hf.block _ (lt_of_some h5) hub.1 hub.2).trans h5
  · exact h6.imp id (fun ⟨kf, e, h⟩ => ⟨kf, e, h.pe hp⟩)
  · exact h12.stable h7 (fun k hk => hk.elim (fun hk => hf.block k (h12.lt h7 k hk) (h8 k hk).2.1 (h8 k hk).2.2.1) (fun hk => hp.low k hk)) hf.size
  · exact h10.over (hp.low _ (by omega))
theorem UP.ue {S : Sink} {w : World} {A : Adr} {s : ByteArray} {win most : Nat} {u : US} (h : UP S w A s win most u) : UE w A s := by
  obtain ⟨vr, F, fx, h1, h2, h3, h4, h5, h6, h7, h8, h9, h10, h11, h12, h13, h14, h15⟩ := h
  exact ⟨h2.rdE, _, _, _, _, h5⟩
/-- an error that the reader tells -/
theorem UP.rdE {S : Sink} {w w' : World} {A : Adr} {s : ByteArray} {win most : Nat} {u : US} (h : UP S w A s win most u) (hr : RdE w' A.tb A.rb s) (hf : RF A.tb A.rb w w') : UE w' A s ∧ PE A.base w w' := by
  obtain ⟨vr, F, fx, h1, h2, h3, h4, h5, h6, h7, h8, h9, h10, h11, h12, h13, h14, h15⟩ := h
  have hub := h2.types h5 (by decide) (by decide)
  exact ⟨⟨hr, _, _, _, _, (hf.block _ (lt_of_some h5) hub.1 hub.2).trans h5⟩, hf.pe h2⟩
/-- memory that is laid new -/
theorem UP.alloc {S : Sink} {w : World} {A : Adr} {s : ByteArray} {win most : Nat} {u : US} (h : UP S w A s win most u) (o : Obj) : UP S (w.alloc o) A s win most u ∧ PE A.base w (w.alloc o) := by
  have hr : Rd w A.tb A.rb s u.st.pos := by obtain ⟨_, _, _, _, h2, _⟩ := h; exact h2
  have h0 : u.st.bad = false := by obtain ⟨_, _, _, h1, _⟩ := h; exact h1
  have h3 := h.rd u.st.pos (hr.alloc o) ((RF.refl _ _ w).alloc o)
  rw [← h0] at h3
  exact h3
theorem UP.grow {S : Sink} {w w' : World} {A : Adr} {s : ByteArray} {win most : Nat} {u : US} (h : UP S w A s win most u) (hb : Below w.heap.size w w') : UP S w' A s win most u ∧ PE A.base w w' := by
  have hr : Rd w A.tb A.rb s u.st.pos := by obtain ⟨_, _, _, _, h2, _⟩ := h; exact h2
  have h0 : u.st.bad = false := by obtain ⟨_, _, _, h1, _⟩ := h; exact h1
  have h3 := h.rd (w' := w') u.st.pos (hr.grow (fun k hk => hb.block k hk)) ⟨hb.os, hb.tape, hb.output, hb.size, fun k hk _ _ => hb.block k hk⟩
  rw [← h0] at h3
  exact h3
theorem UE.alloc {w : World} {A : Adr} {s : ByteArray} (h : UE w A s) (o : Obj) : UE (w.alloc o) A s := by
  obtain ⟨h1, g, l, f, x, h2⟩ := h
  exact ⟨h1.alloc o, g, l, f, x, (alloc_old (lt_of_some h2)).trans h2⟩
theorem UE.drewN {w : World} {A : Adr} {s : ByteArray} (h : UE w A s) (n : Nat) : UE (w.drewN n) A s := by
  obtain ⟨h1, g, l, f, x, h2⟩ := h
  exact ⟨h1.drewN n, g, l, f, x, h2⟩
theorem UP.cells {S : Sink} {w : World} {A : Adr} {s : ByteArray} {win most : Nat} {u : US} (h : UP S w A s win most u) : w.cell? ⟨A.ub, 0, none⟩ = some (.pointer (some ⟨A.rb, 0, none⟩)) ∧ w.cell? ⟨A.ub, 1, none⟩ = some (.pointer (some ⟨A.gb, 0, none⟩)) ∧ w.cell? ⟨A.ub, 2, none⟩ = some (.int .i64 ((most - u.out.length : Nat) : Int)) ∧ w.cell? ⟨A.ub, 3, none⟩ = some S.fv := by
  obtain ⟨vr, F, fx, h1, h2, h3, h4, h5, h6, h7, h8, h9, h10, h11, h12, h13, h14, h15⟩ := h
  exact ⟨by simpa using (cell_of h5 0).1, by simpa using (cell_of h5 1).1, by simpa using (cell_of h5 2).1, by simpa using (cell_of h5 3).1⟩
theorem UP.facts {S : Sink} {w : World} {A : Adr} {s : ByteArray} {win most : Nat} {u : US} (h : UP S w A s win most u) : u.st.bad = false ∧ Rd w A.tb A.rb s u.st.pos ∧ u.out.length ≤ most := by
  obtain ⟨vr, F, fx, h1, h2, h3, h4, h5, h6, h7, h8, h9, h10, h11, h12, h13, h14, h15⟩ := h
  exact ⟨h1, h2, h3⟩
theorem PE.alloc (base : Nat) (w : World) (o : Obj) (h : base ≤ w.heap.size) : PE base w (w.alloc o) := ⟨rfl, rfl, rfl, by simp, fun k hk => alloc_old (by omega), fun k cur T f e _ => alloc_old (lt_of_some e)⟩
theorem UP.base {S : Sink} {w : World} {A : Adr} {s : ByteArray} {win most : Nat} {u : US} (h : UP S w A s win most u) : A.base ≤ w.heap.size := by
  obtain ⟨vr, F, fx, h1, h2, h3, h4, h5, h6, h7, h8, h9, h10, h11, h12, h13, h14, h15⟩ := h
  have := h2.lts; omega
set_option maxRecDepth 10000 in
set_option maxHeartbeats 2000000 in
theorem room_any (S : Sink) (A : Adr) (s : ByteArray) (win most n : Nat) (u : US) (w : World) (h : UP S w A s win most u) (hm : most ≤ 16777216) (hn : n ≤ 1000000) :
    Calls Tryz.prog 160 #[.pointer (some ⟨A.ub, 0, none⟩), .int .i64 (n : Int)] w fun e w' =>
      (u.out.length + n ≤ most ∧ e = .returned .nilIface ∧ w' = w) ∨ ((∃ T a, e = .returned (.iface T (.pointer (some a))) ∧ Why A.tb w' T a (¬ u.out.length + n ≤ most)) ∧ UE w' A s ∧ PE A.base w w') := by
  obtain ⟨c0, c1, c2, c3⟩ := h.cells
  have hf := h.facts
  have hol : u.out.length ≤ most := hf.2.2
  clear c0 c1 c3 hf
  obtain ⟨l, hl⟩ : ∃ l, l = most - u.out.length := ⟨_, rfl⟩
  rw [← hl] at c2
  have hl2 : l ≤ 16777216 := by omega
  by_cases hle : n ≤ l
  · have d1 : decide ((l : Int) < (n : Int)) = false := decide_eq_false (by omega)
    have H : Hid (u.out.length + n ≤ most) := (by omega : _ ≤ _)
    clear hl
    go_enter Tryz.func160, Tryz.ntmps160
    go_wp2_with fail
    go_ret
    exact .inl ⟨H.out, rfl, rfl⟩
  · have d1 : decide ((l : Int) < (n : Int)) = true := decide_eq_true (by omega)
    have H : Hid (¬ u.out.length + n ≤ most) := (by omega : ¬ _)
    clear hl
    go_enter Tryz.func160, Tryz.ntmps160
    go_wp2_with fail
    refine (mal_any _ _).mono ?_
    rintro e w3 ⟨rfl, rfl⟩
    go_wp2_with fail
    go_ret
    exact .inr ⟨⟨_, _, rfl, Why.mal H.out⟩, h.ue.alloc _, PE.alloc _ _ _ h.base⟩
end Go.Proofs.YtblgcjecpjgppaaGreatDoor.Pr
/- The walk of putByte, wherever its bytes go. -/
set_option linter.unusedVariables false
namespace Go.Proofs.YtblgcjecpjgppaaGreatDoor.Pr
open Go.RowKit Rf
open RfW (byteCells byteCells_snoc)
/-- a call of a function that has a body -/
theorem callBody {f : FuncId} {fn : Func} (hf : Tryz.prog.funcs[f]? = some fn) (hname : (fn.name == "runtime.NumGoroutine") = false) (hb : fn.body.isSome = true) (args : Array Value) (w : World) : (callFunc f args).run Tryz.prog w = .ok (.enter f args) w := by
  obtain ⟨c, hc⟩ := Option.isSome_iff_exists.1 hb
  have h1 : fn.name ≠ "runtime.NumGoroutine" := by simpa using hname
  simp [callFunc, hf, h1, hc]
/-- what putByte does, wherever its bytes go -/
def PutOk (S : Sink) (base : Nat) : Prop := ∀ (A : Adr) (s : ByteArray) (win most : Nat) (u : US) (x : UInt8) (w : World), A.base = base → UP S w A s win most u → u.out.length < most → most ≤ 16777216 → 1 ≤ win → win ≤ 32768 →
  Calls Tryz.prog 161 #[.pointer (some ⟨A.ub, 0, none⟩), .int .u8 ((x.toNat : Nat) : Int)] w fun e w' =>
    (e = .returned .nilIface ∧ UP S w' A s win most ⟨u.st, u.out ++ [x]⟩ ∧ PE A.base w w') ∨
    ((∃ T a, e = .returned (.iface T (.pointer (some a))) ∧ Why A.tb w' T a (S.stop (u.out ++ [x]))) ∧ UE w' A s ∧ PE A.base w w')
/-- a function's value that takes bytes: the function, what it is called with -/
structure Inner where
  fv : Value
  fn : FuncId
  args : Value → Array Value
  K : World → List UInt8 → (Nat → Prop) → Prop
  stop : List UInt8 → Prop
structure Inner.Ok (I : Inner) (base : Nat) : Prop where
  lt : ∀ {w out F}, I.K w out F → ∀ k, F k → k < w.heap.size
  stable : ∀ {w w' out F}, I.K w out F → (∀ k, F k ∨ k < base → w'.heap[k]? = w.heap[k]?) → w.heap.size ≤ w'.heap.size → I.K w' out F
  busy : ∀ {w out F}, I.K w out F → ∀ (k : Nat) (cur : Array Value) (T : TypeId) (f : Nat × Nat), F k → w.heap[k]? = some (Obj.cells cur T f) → busyT T = true
  body : ∀ args w, (callFunc I.fn args).run Tryz.prog w = .ok (.enter I.fn args) w
  call : ∀ (w : World) (out : List UInt8) (F : Nat → Prop) (x : UInt8), I.K w out F → out.length < 16777216 → (∀ k, F k → base ≤ k) → base ≤ w.heap.size →
    Calls Tryz.prog I.fn (I.args (.int .u8 ((x.toNat : Nat) : Int))) w fun e w' =>
      (e = .returned .nilIface ∧ ∃ F', I.K w' (out ++ [x]) F' ∧ Fr F w w' ∧ ∀ k, F' k → F k ∨ w.heap.size ≤ k) ∨
      (∃ T a, e = .returned (.iface T (.pointer (some a))) ∧ IsMal w' T a ∧ I.stop (out ++ [x]) ∧ Fr F w w')
def sinkI (I : Inner) : Sink := ⟨I.fv, I.K, I.stop⟩
theorem sinkI_ok {I : Inner} {base : Nat} (h : I.Ok base) : (sinkI I).Ok base := ⟨h.lt, h.stable⟩
/-- blocks of F and of the ring's row, as types tell -/
theorem Fr.pe {w w' : World} {base : Nat} {P : Nat → Prop} (h : Fr P w w') (hb : base ≤ w.heap.size) (h1 : ∀ k, P k → base ≤ k) (h2 : ∀ k cur T f, P k → w.heap[k]? = some (Obj.cells cur T f) → busyT T = true) : PE base w w' :=
  ⟨h.os, h.tape, h.output, h.size, fun k hk => h.block k (by omega) (fun hp => by have := h1 k hp; omega), fun k cur T f e hT => h.block k (lt_of_some e) (fun hp => by rw [h2 k cur T f hp e] at hT; cases hT)⟩
theorem row_busy {w : World} {base : Nat} {v : Value} {n : Nat} {xs : List Value} (h : w.ownsRow base 5 1 v n xs) {k : Nat} {cur : Array Value} {T : TypeId} {f : Nat × Nat} (hk : v.ownBlock = some k) (e : w.heap[k]? = some (Obj.cells cur T f)) : busyT T = true := by
  by_cases hT : T = 5
  · subst hT; decide
  · exact absurd hk (row_ne h e hT)
/-- the unpacker where the window has a byte that the sink hasn't -/
def Mid (S : Sink) (w : World) (A : Adr) (s : ByteArray) (win most : Nat) (u : US) (x : UInt8) : Prop := ∃ vr F fx,
  u.st.bad = false ∧ Rd w A.tb A.rb s u.st.pos ∧ u.out.length + 1 ≤ most ∧ RingAt w A.gb A.base vr win (u.out ++ [x]) ∧
  w.heap[A.ub]? = some (.cells #[.pointer (some ⟨A.rb, 0, none⟩), .pointer (some ⟨A.gb, 0, none⟩), .int .i64 ((most - (u.out.length + 1) : Nat) : Int), S.fv, .pointer fx] 169 (0, 0)) ∧
  (fx = none ∨ ∃ kf, fx = some ⟨kf, 0, none⟩ ∧ TabsIs w kf fixList (List.replicate 32 5)) ∧ S.K w u.out F ∧
  (∀ k, F k → A.base ≤ k ∧ ¬ A.tb.F k ∧ k ≠ A.rb ∧ k ≠ A.gb ∧ k ≠ A.ub ∧ vr.ownBlock ≠ some k) ∧ A.tb.Ok ∧ OrderIs w ∧
  6 ≤ A.base ∧ S.Ok A.base ∧ A.base ≤ A.rb ∧ A.base ≤ A.gb ∧ A.base ≤ A.ub
/-- 'left--' and the window's Add lead there -/
theorem Mid.mk {S : Sink} {w w2 : World} {A : Adr} {s : ByteArray} {win most : Nat} {u : US} {x : UInt8} {vr vr' : Value} {F : Nat → Prop} {fx : Option Addr} {l : Nat}
    (h1 : u.st.bad = false) (h2 : Rd w A.tb A.rb s u.st.pos) (h4 : RingAt w A.gb A.base vr win u.out)
    (h5 : w.heap[A.ub]? = some (.cells #[.pointer (some ⟨A.rb, 0, none⟩), .pointer (some ⟨A.gb, 0, none⟩), .int .i64 (l : Int), S.fv, .pointer fx] 169 (0, 0)))
    (h6 : fx = none ∨ ∃ kf, fx = some ⟨kf, 0, none⟩ ∧ TabsIs w kf fixList (List.replicate 32 5)) (h7 : S.K w u.out F)
    (h8 : ∀ k, F k → A.base ≤ k ∧ ¬ A.tb.F k ∧ k ≠ A.rb ∧ k ≠ A.gb ∧ k ≠ A.ub ∧ vr.ownBlock ≠ some k) (h9 : A.tb.Ok) (h10 : OrderIs w) (h11 : 6 ≤ A.base) (h12 : S.Ok A.base) (h13 : A.base ≤ A.rb) (h14 : A.base ≤ A.gb) (h15 : A.base ≤ A.ub)
    (hl : l = most - u.out.length) (hlt : u.out.length < most)
    (r1 : RingAt w2 A.gb A.base vr' win (u.out ++ [x])) (r2 : Fr (fun k => k = A.gb ∨ vr.ownBlock = some k) (w.setCell ⟨A.ub, 2, none⟩ (.int .i64 ((l : Int) - 1))) w2)
    (r3 : ∀ k, vr'.ownBlock = some k → vr.ownBlock = some k ∨ (w.setCell ⟨A.ub, 2, none⟩ (.int .i64 ((l : Int) - 1))).heap.size ≤ k) : Mid S w2 A s win most u x ∧ PE A.base w w2 := by
  have hb : A.base ≤ w.heap.size := by have := h2.lts; omega
  have hke : A.tb.KE w := by obtain ⟨_, _, _, _, _, _, h4, h5, _⟩ := h2; exact h5.ke h4
  have g5 : (w.setCell ⟨A.ub, 2, none⟩ (.int .i64 ((l : Int) - 1))).heap[A.ub]? = some (.cells #[.pointer (some ⟨A.rb, 0, none⟩), .pointer (some ⟨A.gb, 0, none⟩), .int .i64 ((l : Int) - 1), S.fv, .pointer fx] 169 (0, 0)) := (set_of h5 2 _).trans (by simp)
  have hug : A.gb ≠ A.ub := ne_of_type h4.1 h5 (by decide)
  have hrow : vr.ownBlock ≠ some A.ub := row_ne h4.2.1 h5 (by decide)
  have gP : PE A.base w (w.setCell ⟨A.ub, 2, none⟩ (.int .i64 ((l : Int) - 1))) := ⟨rfl, rfl, rfl, by simp, fun k hk => set_other 2 _ (by omega), fun k cur T f e hT => set_other 2 _ (fun e2 => by rw [e2, h5] at e; simp at e; rw [← e.2.1] at hT; revert hT; decide)⟩
  have gO : ∀ k, k ≠ A.ub → (w.setCell ⟨A.ub, 2, none⟩ (.int .i64 ((l : Int) - 1))).heap[k]? = w.heap[k]? := fun k hk => set_other 2 _ hk
  have gZ : (w.setCell ⟨A.ub, 2, none⟩ (.int .i64 ((l : Int) - 1))).heap.size = w.heap.size := by simp
  generalize (w.setCell ⟨A.ub, 2, none⟩ (.int .i64 ((l : Int) - 1))) = w1 at *
  have k5 : w2.heap[A.ub]? = _ := (r2.block A.ub (lt_of_some g5) (fun e => e.elim (fun e => hug e.symm) (fun e => hrow e))).trans g5
  have kP : PE A.base w1 w2 := r2.pe (by omega) (fun k hk => by
    rcases hk with rfl | hk
    · exact h14
    · exact (h4.2.1.lt k hk).1) (fun k cur T f hk e => by
    have hku : k ≠ A.ub := by
      rcases hk with rfl | hk
      · exact hug
      · exact fun e => hrow (e ▸ hk)
    rw [gO k hku] at e
    rcases hk with rfl | hk
    · rw [h4.1] at e; simp at e; rw [← e.2.1]; decide
    · exact row_busy h4.2.1 hk e)
  have hPE : PE A.base w w2 := gP.trans kP
  have hkeep : ∀ k, k < w.heap.size → k ≠ A.ub → k ≠ A.gb → vr.ownBlock ≠ some k → w2.heap[k]? = w.heap[k]? := fun k hk a1 a2 a3 =>
    (r2.block k (by omega) (fun e => e.elim a2 a3)).trans (gO k a1)
  have hrt := h2.types h4.1 (by decide) (by decide)
  have hut := h2.types h5 (by decide) (by decide)
  have hl2 := h2.lts
  have hrr : vr.ownBlock ≠ some A.rb := by
    obtain ⟨c, hc, t, _, _, _, _, _, q5⟩ := h2
    exact row_ne h4.2.1 q5 (by decide)
  refine ⟨⟨vr', F, fx, h1, h2.over (fun k hk => ?_) ?_, hlt, r1, ?_, h6.imp id (fun ⟨kf, e, ht⟩ => ⟨kf, e, ht.pe hPE⟩), h12.stable h7 (fun k hk => ?_) hPE.size, ?_, h9, h10.over (hPE.low _ (by omega)), h11, h12, h13, h14, h15⟩, hPE⟩
  · rcases hk with hk | hk
    · exact hkeep k (hl2.1 k (.inl hk)) (fun e => hut.1 (e ▸ hk)) (fun e => hrt.1 (e ▸ hk)) (fun e => row_src h4.2.1 h9 hke e hk)
    · exact hPE.low k hk
  · exact hkeep A.rb hl2.2.1 (Ne.symm hut.2) (Ne.symm hrt.2) hrr
  · rw [k5]
    have : (l : Int) - 1 = ((most - (u.out.length + 1) : Nat) : Int) := by omega
    rw [this]
  · rcases hk with hk | hk
    · have := h8 k hk
      exact hkeep k (h12.lt h7 k hk) this.2.2.2.2.1 this.2.2.2.1 this.2.2.2.2.2
    · exact hPE.low k hk
  · intro k hk
    have hq := h8 k hk
    refine ⟨hq.1, hq.2.1, hq.2.2.1, hq.2.2.2.1, hq.2.2.2.2.1, fun e2 => ?_⟩
    have h9 := h12.lt h7 k hk
    rcases r3 k e2 with e3 | e3
    · exact hq.2.2.2.2.2 e3
    · omega
/-- the sink takes the byte -/
theorem Mid.fin {S : Sink} {w w' : World} {A : Adr} {s : ByteArray} {win most : Nat} {u : US} {x : UInt8} {vr : Value} {F F' : Nat → Prop} {fx : Option Addr}
    (h1 : u.st.bad = false) (h2 : Rd w A.tb A.rb s u.st.pos) (h3 : u.out.length + 1 ≤ most) (h4 : RingAt w A.gb A.base vr win (u.out ++ [x]))
    (h5 : w.heap[A.ub]? = some (.cells #[.pointer (some ⟨A.rb, 0, none⟩), .pointer (some ⟨A.gb, 0, none⟩), .int .i64 ((most - (u.out.length + 1) : Nat) : Int), S.fv, .pointer fx] 169 (0, 0)))
    (h6 : fx = none ∨ ∃ kf, fx = some ⟨kf, 0, none⟩ ∧ TabsIs w kf fixList (List.replicate 32 5)) (h7 : S.K w u.out F)
    (h8 : ∀ k, F k → A.base ≤ k ∧ ¬ A.tb.F k ∧ k ≠ A.rb ∧ k ≠ A.gb ∧ k ≠ A.ub ∧ vr.ownBlock ≠ some k) (h9 : A.tb.Ok) (h10 : OrderIs w) (h11 : 6 ≤ A.base) (h12 : S.Ok A.base) (h13 : A.base ≤ A.rb) (h14 : A.base ≤ A.gb) (h15 : A.base ≤ A.ub)
    (hbu : ∀ (k : Nat) (cur : Array Value) (T : TypeId) (f : Nat × Nat), F k → w.heap[k]? = some (Obj.cells cur T f) → busyT T = true) (b2 : Fr F w w') :
    UE w' A s ∧ PE A.base w w' ∧ (S.K w' (u.out ++ [x]) F' → (∀ k, F' k → F k ∨ w.heap.size ≤ k) → UP S w' A s win most ⟨u.st, u.out ++ [x]⟩) := by
  have hl2 := h2.lts
  have hb : A.base ≤ w.heap.size := by omega
  have hPE : PE A.base w w' := b2.pe hb (fun k hk => (h8 k hk).1) hbu
  have hr' : Rd w' A.tb A.rb s u.st.pos := h2.over (fun k hk => by
    rcases hk with hk | hk
    · exact b2.block k (hl2.1 k (.inl hk)) (fun e => (h8 k e).2.1 hk)
    · exact hPE.low k hk) (b2.block _ hl2.2.1 (fun e => (h8 _ e).2.2.1 rfl))
  have k5 : w'.heap[A.ub]? = _ := (b2.block A.ub (lt_of_some h5) (fun e => (h8 _ e).2.2.2.2.1 rfl)).trans h5
  refine ⟨⟨hr'.rdE, _, _, _, _, k5⟩, hPE, fun hK hF' => ?_⟩
  refine ⟨vr, F', fx, h1, hr', by simpa using h3, ⟨(b2.block A.gb (lt_of_some h4.1) (fun e => (h8 _ e).2.2.2.1 rfl)).trans h4.1, ownsRow_over h4.2.1 (fun k hk => b2.block k (h4.2.1.lt k hk).2 (fun e => (h8 k e).2.2.2.2.2 hk)), Nat.le_trans h4.2.2 b2.size⟩, ?_, h6.imp id (fun ⟨kf, e, ht⟩ => ⟨kf, e, ht.pe hPE⟩), hK, ?_, h9, h10.over (hPE.low _ (by omega)), h11, h12, h13, h14, h15⟩
  · rw [k5]; simp
  · intro k hk
    rcases hF' k hk with e | e
    · exact h8 k e
    · have hn := h2.new e
      have := lt_of_some h4.1
      have := lt_of_some h5
      exact ⟨hn.1, hn.2.1, hn.2.2, by omega, by omega, fun e2 => by have := (h4.2.1.lt k e2).2; omega⟩
/-- bytes go to a method of what lies in block ob -/
def mI (ob : Nat) (fn : FuncId) (K : World → List UInt8 → (Nat → Prop) → Prop) (stop : List UInt8 → Prop) : Inner :=
  ⟨.func (.func fn) #[.pointer (some ⟨ob, 0, none⟩)] #[], fn, fun x => #[.pointer (some ⟨ob, 0, none⟩), x], K, stop⟩
set_option maxRecDepth 10000 in
set_option maxHeartbeats 4000000 in
theorem putM (ob : Nat) (fn : FuncId) (K : World → List UInt8 → (Nat → Prop) → Prop) (stop : List UInt8 → Prop) (base : Nat) (hI : (mI ob fn K stop).Ok base) : PutOk (sinkI (mI ob fn K stop)) base := by
  intro A s win most u x w hA h hlt hm hw1 hw2
  subst hA
  obtain ⟨c0, c1, c2, c3⟩ := h.cells
  obtain ⟨vr, F, fx, h1, h2, h3, h4, h5, h6, h7, h8, h9, h10, h11, h12, h13, h14, h15⟩ := h
  have f2 := (cell_of h5 2).2
  obtain ⟨l, hl⟩ : ∃ l, l = most - u.out.length := ⟨_, rfl⟩
  rw [← hl] at c2 h5
  have hl1 : 1 ≤ l := by omega
  have hl2 : l ≤ 16777216 := by omega
  have HL : Hid (l = most - u.out.length) := hl
  clear hl c0 c3
  have hug : A.gb ≠ A.ub := ne_of_type h4.1 h5 (by decide)
  have hrow : vr.ownBlock ≠ some A.ub := row_ne h4.2.1 h5 (by decide)
  have g4 : RingAt (w.setCell ⟨A.ub, 2, none⟩ (.int .i64 ((l : Int) - 1))) A.gb A.base vr win u.out := ⟨(set_other 2 _ hug).trans h4.1, ownsRow_over h4.2.1 (fun k hk => set_other 2 _ (fun e => hrow (e ▸ hk))), by simpa using h4.2.2⟩
  go_enter Tryz.func161, Tryz.ntmps161
  go_wp2_with fail
  refine (add_any A.gb A.base vr win u.out x _ g4 hw1 hw2).mono ?_
  rintro e w2 ⟨rfl, vr', r1, r2, r3⟩
  obtain ⟨hM, hP⟩ := Mid.mk h1 h2 h4 h5 h6 h7 h8 h9 h10 h11 h12 h13 h14 h15 HL.out hlt r1 r2 r3
  clear h1 h2 h4 h5 h6 h7 h8 h9 h10 h11 h12 h13 h14 h15 r1 r2 r3 c1 c2 f2 g4 hug hrow
  obtain ⟨vr, F, fx, h1, h2, h3, h4, h5, h6, h7, h8, h9, h10, h11, h12, h13, h14, h15⟩ := hM
  have kc3 : w2.cell? ⟨A.ub, 3, none⟩ = some (.func (.func fn) #[.pointer (some ⟨ob, 0, none⟩)] #[]) := by simpa [sinkI, mI] using (cell_of h5 3).1
  have hC := hI.call w2 u.out F x h7 (by omega) (fun k hk => (h8 k hk).1) (by have := h2.lts; omega)
  have hbd : ∀ args w, (callFunc fn args).run Tryz.prog w = .ok (.enter fn args) w := hI.body
  have hC' : Calls Tryz.prog fn #[.pointer (some ⟨ob, 0, none⟩), .int .u8 ((x.toNat : Nat) : Int)] w2 _ := hC
  clear hC
  go_wp2_with fail
  refine hC'.mono ?_
  rintro e w3 (⟨rfl, F', b1, b2, b3⟩ | ⟨T, a, rfl, b0, b1, b2⟩)
  · obtain ⟨q1, q2, q3⟩ := Mid.fin (F' := F') h1 h2 h3 h4 h5 h6 h7 h8 h9 h10 h11 h12 h13 h14 h15 (hI.busy h7) b2
    go_wp2_with fail
    go_ret
    exact .inl ⟨rfl, q3 b1 b3, hP.trans q2⟩
  · obtain ⟨q1, q2, q3⟩ := Mid.fin (F' := F) h1 h2 h3 h4 h5 h6 h7 h8 h9 h10 h11 h12 h13 h14 h15 (hI.busy h7) b2
    go_wp2_with fail
    go_ret
    exact .inr ⟨⟨T, a, rfl, .inl ⟨b0, b1⟩⟩, q1, hP.trans q2⟩
/-- a Builder in block ob -/
def innB (ob base : Nat) : Inner := mI ob 35 (fun w out F => ∃ v, BldAt w ob base v out ∧ F = fun k => k = ob ∨ v.ownBlock = some k) (fun _ => False)
theorem BldAt.over {w w' : World} {ob base : Nat} {v : Value} {out : List UInt8} (h : BldAt w ob base v out) (e : ∀ k, k = ob ∨ v.ownBlock = some k → w'.heap[k]? = w.heap[k]?) (hs : w.heap.size ≤ w'.heap.size) : BldAt w' ob base v out := by
  obtain ⟨a, h1, h2, h3, h4, h5, h6⟩ := h
  exact ⟨a, (e ob (.inl rfl)).trans h1, h2, ownsRow_over h3 (fun k hk => e k (.inr hk)), h4, Nat.le_trans h5 hs, h6⟩
theorem innB_ok (ob base : Nat) : (innB ob base).Ok base where
  lt := by
    rintro w out F ⟨v, ⟨a, h1, h2, h3, h4⟩, rfl⟩ k hk
    rcases hk with rfl | hk
    · exact lt_of_some h1
    · exact (h3.lt k hk).2
  stable := by
    rintro w w' out F ⟨v, h, rfl⟩ e hs
    exact ⟨v, h.over (fun k hk => e k (.inl hk)) hs, rfl⟩
  busy := by
    rintro w out F ⟨v, ⟨a, h1, h2, h3, h4⟩, rfl⟩ k cur T f hk e
    rcases hk with rfl | hk
    · rw [h1] at e; simp at e; rw [← e.2.1]; decide
    · exact row_busy h3 hk e
  body := fun args w => callBody Tryz.func35 (by kernel_rfl) (by kernel_rfl) args w
  call := by
    rintro w out F x ⟨v, h, rfl⟩ hl _ _
    refine (write_any ob base v out x w h (by omega)).mono ?_
    rintro e w' ⟨rfl, v', b1, b2, b3⟩
    refine .inl ⟨rfl, _, ⟨v', b1, rfl⟩, b2, fun k hk => ?_⟩
    rcases hk with e | hk
    · exact .inl (.inl e)
    · exact (b3 k hk).imp .inr id
/-- a Builder in block ob, as a sink -/
def sinkB (ob base : Nat) : Sink := sinkI (innB ob base)
theorem sinkB_ok (ob base : Nat) : (sinkB ob base).Ok base := sinkI_ok (innB_ok ob base)
theorem putB (ob base : Nat) : PutOk (sinkB ob base) base := putM ob _ _ _ base (innB_ok ob base)
end Go.Proofs.YtblgcjecpjgppaaGreatDoor.Pr
/- The walks of single, copyBack, amount. -/
set_option linter.unusedVariables false
namespace Go.Proofs.YtblgcjecpjgppaaGreatDoor.Pr
open Go.RowKit Rf
theorem Res.ok {S : Sink} {A : Adr} {s : ByteArray} {win most : Nat} {w w' : World} {U : US} (h : U.st.bad = false) (hu : UP S w' A s win most U) (hp : PE A.base w w') : Res S A s win most w U (.returned .nilIface) w' := .inl ⟨h, rfl, hu, hp⟩
theorem Res.no {S : Sink} {A : Adr} {s : ByteArray} {win most : Nat} {w w' : World} {U : US} {T : TypeId} {a : Addr} (h : Why A.tb w' T a (Stop S U)) (hu : UE w' A s) (hp : PE A.base w w') : Res S A s win most w U (.returned (.iface T (.pointer (some a)))) w' := .inr ⟨⟨T, a, rfl, h⟩, hu, hp⟩
set_option maxRecDepth 10000 in
set_option maxHeartbeats 2000000 in
theorem single_any (S : Sink) (A : Adr) (s : ByteArray) (win most : Nat) (u : US) (x : UInt8) (w : World) (hP : PutOk S A.base) (h : UP S w A s win most u) (hm : most ≤ 16777216) (hw1 : 1 ≤ win) (hw2 : win ≤ 32768) :
    Calls Tryz.prog 188 #[.pointer (some ⟨A.ub, 0, none⟩), .int .u8 ((x.toNat : Nat) : Int)] w fun e w' => Res S A s win most w (putT most x u) e w' := by
  have h1 : u.st.bad = false := h.facts.1
  go_enter Tryz.func188, Tryz.ntmps188
  go_wp2_with fail
  refine (room_any S A s win most 1 u _ h hm (by omega)).mono ?_
  rintro e w1 (⟨k1, rfl, rfl⟩ | ⟨⟨T, a, rfl, k1⟩, k2, k3⟩)
  · go_wp2_with fail
    refine (hP A s win most u x _ rfl h (by omega) hm hw1 hw2).mono ?_
    rintro e w2 (⟨rfl, g1, g2⟩ | ⟨⟨T, a, rfl, g0⟩, g1, g2⟩)
    · go_wp2_with fail
      go_ret
      refine .inl ⟨?_, rfl, ?_, g2⟩
      · rw [putT_go most x u (by omega) h1]; exact h1
      · rw [putT_go most x u (by omega) h1]; exact g1
    · go_wp2_with fail
      go_ret
      refine .inr ⟨⟨T, a, rfl, g0.imp (fun hst => .inr ⟨_, hst, ?_⟩)⟩, g1, g2⟩
      rw [putT_go most x u (by omega) h1]
      exact List.prefix_refl _
  · go_wp2_with fail
    go_ret
    exact .inr ⟨⟨T, a, rfl, k1.imp (fun k1 => .inl (by rw [putT_full most x u (by omega)]))⟩, k2, k3⟩
theorem single_int (S : Sink) (A : Adr) (s : ByteArray) (win most : Nat) (u : US) (x : UInt8) (a : Int) (ha : a = ((x.toNat : Nat) : Int)) (w : World) (hP : PutOk S A.base) (h : UP S w A s win most u) (hm : most ≤ 16777216) (hw1 : 1 ≤ win) (hw2 : win ≤ 32768) :
    Calls Tryz.prog 188 #[.pointer (some ⟨A.ub, 0, none⟩), .int .u8 a] w fun e w' => Res S A s win most w (putT most x u) e w' := by
  subst ha; exact single_any S A s win most u x w hP h hm hw1 hw2
/-- bytes that come again, once it is known how many and how far back -/
def backT (win most back count : Nat) (u : US) : US := if win < back ∨ u.out.length < back then ⟨⟨u.st.pos, true⟩, u.out⟩ else cpL most back count u
theorem backT_no (win most back count : Nat) (u : US) (h : win < back ∨ u.out.length < back) : backT win most back count u = ⟨⟨u.st.pos, true⟩, u.out⟩ := if_pos h
theorem backT_go (win most back count : Nat) (u : US) (h : ¬ (win < back ∨ u.out.length < back)) : backT win most back count u = cpL most back count u := if_neg h
theorem UP.ring {S : Sink} {w : World} {A : Adr} {s : ByteArray} {win most : Nat} {u : US} (h : UP S w A s win most u) : ∃ vr, RingAt w A.gb A.base vr win u.out := by
  obtain ⟨vr, F, fx, h1, h2, h3, h4, _⟩ := h; exact ⟨vr, h4⟩
set_option maxRecDepth 10000 in
set_option maxHeartbeats 4000000 in
theorem copyBack_any (S : Sink) (A : Adr) (s : ByteArray) (win most back count : Nat) (u : US) (w : World) (hP : PutOk S A.base) (h : UP S w A s win most u) (hm : most ≤ 16777216) (hw1 : 1 ≤ win) (hw2 : win ≤ 32768) (hb1 : 1 ≤ back) (hb2 : back ≤ 1000000) (hc1 : 1 ≤ count) (hc2 : count ≤ 100000) (hroom : u.out.length + count ≤ most) :
    Calls Tryz.prog 213 #[.pointer (some ⟨A.ub, 0, none⟩), .int .i64 (back : Int), .int .i64 (count : Int)] w fun e w' => Res S A s win most w (backT win most back count u) e w' := by
  by_cases hno : win < back ∨ u.out.length < back
  · rw [backT_no win most back count u hno]
    obtain ⟨c0, c1, c2, c3⟩ := h.cells
    obtain ⟨vr, hr⟩ := h.ring
    go_enter Tryz.func213, Tryz.ntmps213
    go_wp2_with fail
    refine wp_loop_rounds 1 ?_
    rw [rounds_succ]
    go_wp2_with fail
    refine (back_none A.gb A.base vr win back u.out _ hr hw1 hw2 hb1 hb2 (by omega)).mono ?_
    rintro e w1 ⟨rfl, rfl⟩
    go_wp2_with fail
    refine (mal_any _ _).mono ?_
    rintro e w3 ⟨rfl, rfl⟩
    go_wp2_with fail
    go_ret
    exact .inr ⟨⟨_, _, rfl, Why.mal (.inl rfl)⟩, h.ue.alloc _, PE.alloc _ _ _ h.base⟩
  · rw [backT_go win most back count u hno]
    go_enter Tryz.func213, Tryz.ntmps213
    go_wp2_with fail
    go_loopw [11] (fun iv wr => ∃ (j : Nat) (t : US), j ≤ count ∧ iv = .int .i64 (j : Int) ∧ cpL most back count u = cpL most back (count - j) t ∧ t.out.length = u.out.length + j ∧ UP S wr A s win most t ∧ PE A.base w wr) (fun iv _ => count - (intOf iv).toNat)
    case atStart => exact ⟨0, u, Nat.zero_le _, rfl, rfl, rfl, h, PE.refl _ _⟩
    case round =>
      obtain ⟨j, t, hj, rfl, ht1, ht2, hU, hPE⟩ := hrel
      have HT : Hid _ := ht1
      have HL : Hid (t.out.length = u.out.length + j) := ht2
      clear ht1 ht2
      by_cases hlt : j < count
      · obtain ⟨c0, c1, c2, c3⟩ := hU.cells
        obtain ⟨vr, hr⟩ := hU.ring
        have hbad : t.st.bad = false := hU.facts.1
        have H1 : Hid (back ≤ min t.out.length win ∧ t.out.length < most) := (by have := HL.out; omega : _ ∧ _)
        have H2 : Hid (cpL most back (count - j) t = cpL most back (count - (j + 1)) ⟨t.st, t.out ++ [t.out.getD (t.out.length - back) 0]⟩) := (by
          rw [show count - j = (count - (j + 1)) + 1 by omega, cpL_go most back _ t hbad, putT_go most _ t (by have := H1.out; omega) hbad] : _ = _)
        go_wp2_with fail
        refine (back_some A.gb A.base vr win back t.out _ hr hw1 hw2 hb1 H1.out.1).mono ?_
        rintro e w1 ⟨rfl, hw1'⟩
        have hw1' := hw1'.symm
        subst hw1'
        go_wp2_with fail
        refine (hP A s win most t (t.out.getD (t.out.length - back) 0) _ rfl hU H1.out.2 hm hw1 hw2).mono ?_
        rintro e w2 (⟨rfl, g1, g2⟩ | ⟨⟨T, a, rfl, g0⟩, g1, g2⟩)
        rotate_left
        · have HW : Why A.tb w2 T a (Stop S (cpL most back count u)) := g0.imp (fun hst => .inr ⟨_, hst, by
            rw [HT.out, H2.out]; exact cpL_pre most back _ ⟨t.st, t.out ++ [t.out.getD (t.out.length - back) 0]⟩⟩)
          clear c0 c1 c2 c3 hr g0
          go_wp2_with fail
          go_ret
          exact .inr ⟨⟨T, a, rfl, HW⟩, g1, hPE.trans g2⟩
        clear c0 c1 c2 c3 hr
        go_wp2_with fail
        go_roundw
        case rel => exact ⟨j + 1, _, by omega, by go_num, HT.out.trans H2.out, by simp only [List.length_append, List.length_singleton]; have := HL.out; omega, g1, hPE.trans g2⟩
        case measure => simp [intOf]; omega
      · have H2 : Hid (cpL most back count u = t) := (by rw [HT.out, show count - j = 0 by omega]; rfl : _ = _)
        go_wp2_with fail
        go_ret
        exact .inl ⟨by rw [H2.out]; exact hU.facts.1, rfl, by rw [H2.out]; exact hU, hPE⟩
end Go.Proofs.YtblgcjecpjgppaaGreatDoor.Pr
/- The walk of amount. -/
set_option linter.unusedVariables false
namespace Go.Proofs.YtblgcjecpjgppaaGreatDoor.Pr
open Go.RowKit Rf
/-- a meaning that lies in block b -/
def MeanAt (w : World) (b : Nat) (m : Nat × Nat × Nat) : Prop := w.heap[b]? = some (.cells #[.int .u8 (m.1 : Int), .int .i64 (m.2.1 : Int), .int .u64 (m.2.2 : Int)] 290 (0, 0))
theorem MeanAt.c {w : World} {b : Nat} {m : Nat × Nat × Nat} (h : MeanAt w b m) : w.cell? ⟨b, 0, none⟩ = some (.int .u8 (m.1 : Int)) ∧ w.cell? ⟨b, 1, none⟩ = some (.int .i64 (m.2.1 : Int)) ∧ w.cell? ⟨b, 2, none⟩ = some (.int .u64 (m.2.2 : Int)) :=
  ⟨by simpa using (cell_of h 0).1, by simpa using (cell_of h 1).1, by simpa using (cell_of h 2).1⟩
theorem MeanAt.rf {w w' : World} {b : Nat} {tb : Src} {rb : Nat} {m : Nat × Nat × Nat} {s : ByteArray} {pos : Nat} (h : MeanAt w b m) (hr : Rd w tb rb s pos) (hf : RF tb rb w w') : MeanAt w' b m := by
  have hn := hr.types h (by decide) (by decide)
  exact (hf.block b (lt_of_some h) hn.1 hn.2).trans h
theorem RF.undrew {tb : Src} {rb : Nat} {w w' : World} (h : RF tb rb w.drew w') : RF tb rb w w' := ⟨h.os, h.tape, h.output, h.size, h.block⟩
theorem NumR.undrew {tb : Src} {rb : Nat} {s : ByteArray} {pos n : Nat} {w : World} {x : Int} {v : Value} {w' : World} (h : NumR tb rb s pos n w.drew x v w') : NumR tb rb s pos n w x v w' :=
  Or.imp (fun ⟨a, b, c, d, e⟩ => ⟨a, b, c, d, e.undrew⟩) (fun ⟨a, b, c, d⟩ => ⟨a, b, c, d.undrew⟩) h
set_option maxRecDepth 10000 in
set_option maxHeartbeats 4000000 in
theorem amount_any (S : Sink) (A : Adr) (s : ByteArray) (win most : Nat) (u : US) (m : Nat × Nat × Nat) (w : World) (h : UP S w A s win most u) (hs : s.size ≤ 140737488354000) (hx : m.2.2 ≤ 16) (hl : m.2.1 ≤ 1000000) :
    Calls Tryz.prog 212 #[.pointer (some ⟨A.ub, 0, none⟩), .agg #[.int .u8 (m.1 : Int), .int .i64 (m.2.1 : Int), .int .u64 (m.2.2 : Int)]] w fun e w' =>
      ((numT s m.2.2 u.st).2.bad = false ∧ u.st.pos + m.2.2 ≤ 8 * s.size ∧ e = .returned (.tuple #[.int .i64 ((m.2.1 + bitsV s u.st.pos m.2.2 : Nat) : Int), .nilIface]) ∧ UP S w' A s win most ⟨⟨u.st.pos + m.2.2, false⟩, u.out⟩ ∧ PE A.base w w' ∧ RF A.tb A.rb w w') ∨
      ((∃ n T a, e = .returned (.tuple #[.int .i64 n, .iface T (.pointer (some a))]) ∧ Why A.tb w' T a ((numT s m.2.2 u.st).2.bad = true)) ∧ UE w' A s ∧ PE A.base w w') := by
  obtain ⟨k, l, x⟩ := m
  dsimp only at hx hl ⊢
  have hbad := h.facts.1
  obtain ⟨⟨pos, bad⟩, out⟩ := u
  dsimp only at hbad ⊢
  subst hbad
  have hA := h.alloc (.cells #[.int .u8 (k : Int), .int .i64 (l : Int), .int .u64 (x : Int)] 290)
  have hRF0 : RF A.tb A.rb w (w.alloc (.cells #[.int .u8 (k : Int), .int .i64 (l : Int), .int .u64 (x : Int)] 290)) := (RF.refl _ _ w).alloc _
  have hM : MeanAt (w.alloc (.cells #[.int .u8 (k : Int), .int .i64 (l : Int), .int .u64 (x : Int)] 290)) w.heap.size (k, l, x) := alloc_new w _ _ rfl
  obtain ⟨hU0, hP0⟩ := hA
  go_enter Tryz.func212, Tryz.ntmps212
  go_wp2_with fail
  generalize (w.alloc (.cells #[.int .u8 (k : Int), .int .i64 (l : Int), .int .u64 (x : Int)] 290)) = w0 at *
  obtain ⟨c0, c1, c2, c3⟩ := hU0.cells
  obtain ⟨m0, m1, m2⟩ := hM.c
  obtain ⟨f1, f2, f3⟩ := hU0.facts
  dsimp only at f2
  have hpe := f2.end_le
  have hb16 : bitsV s pos x < 65536 := Nat.lt_of_lt_of_le (bitsV_lt s pos x) (show 2 ^ x ≤ 2 ^ 16 from Nat.pow_le_pow_right (by omega) hx)
  go_upto_region 1 with fail
  go_cut [6, 7] (fun v6 v7 wx => ∃ (i : Int) (v : Value), v6 = .int .i64 i ∧ v7 = v ∧ NumR A.tb A.rb s pos x w0 i v wx)
  case first =>
    go_region_with ((go_at_call 128; refine (number_one A.tb A.rb s pos x _ (by exact f2.drew) hs hx).mono ?_; rintro e w3 ⟨i, v, rfl, g1⟩))
    all_goals
      go_wp2_with fail
      go_meet
      case rel => exact ⟨i, v, rfl, rfl, g1.undrew⟩
  case rest =>
    obtain ⟨i, v, rfl, rfl, hN⟩ := hcut
    rcases hN with ⟨hfit, rfl, rfl, g1, g2⟩ | ⟨rfl, ⟨T, a, rfl, g0⟩, g1, g2⟩
    · have HF : Hid (pos + x ≤ 8 * s.size) := hfit
      clear hfit
      obtain ⟨m0', m1', m2'⟩ := (hM.rf f2 g2).c
      have hfin := hU0.rd (pos + x) g1 g2
      clear c0 c1 c2 c3 m0 m1 m2
      go_wp2_with fail
      go_ret2
      exact .inl ⟨by rw [numT_ok s x pos HF.out], HF.out, ret_iv (by omega), hfin.1, hP0.trans hfin.2, hRF0.trans g2⟩
    · obtain ⟨m0', m1', m2'⟩ := (hM.rf f2 g2).c
      have hfin := hU0.rdE g1 g2
      clear c0 c1 c2 c3 m0 m1 m2
      go_wp2_with fail
      go_ret2
      exact .inr ⟨⟨_, T, a, rfl, g0⟩, hfin.1, hP0.trans hfin.2⟩
end Go.Proofs.YtblgcjecpjgppaaGreatDoor.Pr
/- The walks of readCounts and readLengthTable. -/
set_option linter.unusedVariables false
namespace Go.Proofs.YtblgcjecpjgppaaGreatDoor.Pr
open Go.RowKit Rf
theorem RdE.allocE {w : World} {tb : Src} {rb : Nat} {s : ByteArray} {pos : Nat} (h : Rd w tb rb s pos) (o : Obj) : RdE (w.alloc o) tb rb s := h.rdE.alloc o
set_option maxRecDepth 10000 in
set_option maxHeartbeats 8000000 in
theorem counts_any (tb : Src) (rb : Nat) (s : ByteArray) (pos : Nat) (w : World) (h : Rd w tb rb s pos) (hs : s.size ≤ 140737488354000) :
    Calls Tryz.prog 190 #[.pointer (some ⟨rb, 0, none⟩)] w fun e w' =>
      (∃ a b n : Nat, hdrT s ⟨pos, false⟩ = (a, b, n, ⟨pos + 14, false⟩) ∧ 257 ≤ a ∧ a ≤ 286 ∧ 1 ≤ b ∧ b ≤ 30 ∧ 4 ≤ n ∧ n ≤ 19 ∧ e = .returned (.tuple #[.int .i64 (a : Int), .int .i64 (b : Int), .int .i64 (n : Int), .nilIface]) ∧ Rd w' tb rb s (pos + 14) ∧ RF tb rb w w') ∨
      ((∃ T a, e = .returned (.tuple #[.int .i64 0, .int .i64 0, .int .i64 0, .iface T (.pointer (some a))]) ∧ Why tb w' T a ((hdrT s ⟨pos, false⟩).2.2.2.bad = true)) ∧ RdE w' tb rb s ∧ RF tb rb w w') := by
  go_enter Tryz.func190, Tryz.ntmps190
  go_wp2_with fail
  refine (number_any tb rb s pos 5 _ h hs (by omega)).mono ?_
  rintro e w1 (⟨a1, a2, rfl, a3, a4⟩ | ⟨⟨T, a, rfl, a1⟩, a3, a4⟩)
  rotate_left
  · go_wp2_with fail
    refine bodyPost_ret (v := .tuple #[.int .i64 0, .int .i64 0, .int .i64 0, .iface T (.pointer (some a))]) (by simp [results, Tryz.results190, go_sem]) rfl (.inr ⟨⟨T, a, rfl, a1.imp (fun a1 => hdrSt_keep _ _ _ (numT_keep s 4 _ (numT_keep s 5 _ a1)))⟩, a3, a4⟩)
  have N1 : Hid (numT s 5 ⟨pos, false⟩ = (bitsV s pos 5, ⟨pos + 5, false⟩)) := numT_ok s 5 pos a2
  have hb1 : bitsV s pos 5 < 32 := bitsV_lt s pos 5
  generalize bitsV s pos 5 = n1 at *
  by_cases h1 : n1 + 257 ≤ 286
  rotate_left
  · have d1 : decide ((286 : Int) < (n1 : Int) + 257) = true := decide_eq_true (by omega)
    go_wp2_with fail
    refine (mal_any _ _).mono ?_
    rintro e w2 ⟨rfl, rfl⟩
    go_wp2_with fail
    refine bodyPost_ret (v := .tuple #[.int .i64 0, .int .i64 0, .int .i64 0, .iface 128 (.pointer (some ⟨w1.heap.size, 0, none⟩))]) (by simp [results, Tryz.results190, go_sem]) rfl (.inr ⟨⟨_, _, rfl, Why.mal ?_⟩, RdE.allocE a3 _, a4.alloc _⟩)
    unfold hdrT
    dsimp only
    rw [N1.out]
    unfold hdrSt
    rw [if_pos (.inl (by dsimp only; omega))]
  have d1 : decide ((286 : Int) < (n1 : Int) + 257) = false := decide_eq_false (by omega)
  go_wp2_with fail
  refine (number_any tb rb s (pos + 5) 5 _ a3 hs (by omega)).mono ?_
  rintro e w2 (⟨b1, b2, rfl, b3, b4⟩ | ⟨⟨T, a, rfl, b1⟩, b3, b4⟩)
  rotate_left
  · go_wp2_with fail
    refine bodyPost_ret (v := .tuple #[.int .i64 0, .int .i64 0, .int .i64 0, .iface T (.pointer (some a))]) (by simp [results, Tryz.results190, go_sem]) rfl (.inr ⟨⟨T, a, rfl, b1.imp (fun b1 => ?_)⟩, b3, a4.trans b4⟩)
    unfold hdrT
    dsimp only
    rw [N1.out]
    exact hdrSt_keep _ _ _ (numT_keep s 4 _ b1)
  have N2 : Hid (numT s 5 ⟨pos + 5, false⟩ = (bitsV s (pos + 5) 5, ⟨pos + 5 + 5, false⟩)) := numT_ok s 5 (pos + 5) b2
  have hb2 : bitsV s (pos + 5) 5 < 32 := bitsV_lt s (pos + 5) 5
  generalize bitsV s (pos + 5) 5 = n2 at *
  by_cases h2 : n2 + 1 ≤ 30
  rotate_left
  · have d2 : decide ((30 : Int) < (n2 : Int) + 1) = true := decide_eq_true (by omega)
    go_wp2_with fail
    refine (mal_any _ _).mono ?_
    rintro e w3 ⟨rfl, rfl⟩
    go_wp2_with fail
    refine bodyPost_ret (v := .tuple #[.int .i64 0, .int .i64 0, .int .i64 0, .iface 128 (.pointer (some ⟨w2.heap.size, 0, none⟩))]) (by simp [results, Tryz.results190, go_sem]) rfl (.inr ⟨⟨_, _, rfl, Why.mal ?_⟩, RdE.allocE b3 _, (a4.trans b4).alloc _⟩)
    unfold hdrT
    dsimp only
    rw [N1.out]
    dsimp only
    rw [N2.out]
    unfold hdrSt
    rw [if_pos (.inr (by dsimp only; omega))]
  have d2 : decide ((30 : Int) < (n2 : Int) + 1) = false := decide_eq_false (by omega)
  go_wp2_with fail
  refine (number_any tb rb s (pos + 5 + 5) 4 _ b3 hs (by omega)).mono ?_
  rintro e w3 (⟨c1, c2, rfl, c3, c4⟩ | ⟨⟨T, a, rfl, c1⟩, c3, c4⟩)
  rotate_left
  · go_wp2_with fail
    refine bodyPost_ret (v := .tuple #[.int .i64 0, .int .i64 0, .int .i64 0, .iface T (.pointer (some a))]) (by simp [results, Tryz.results190, go_sem]) rfl (.inr ⟨⟨T, a, rfl, c1.imp (fun c1 => ?_)⟩, c3, (a4.trans b4).trans c4⟩)
    unfold hdrT
    dsimp only
    rw [N1.out]
    dsimp only
    rw [N2.out]
    exact hdrSt_keep _ _ _ c1
  have N3 : Hid (numT s 4 ⟨pos + 5 + 5, false⟩ = (bitsV s (pos + 5 + 5) 4, ⟨pos + 5 + 5 + 4, false⟩)) := numT_ok s 4 (pos + 5 + 5) c2
  have hb3 : bitsV s (pos + 5 + 5) 4 < 16 := bitsV_lt s (pos + 5 + 5) 4
  generalize bitsV s (pos + 5 + 5) 4 = n3 at *
  go_wp2_with fail
  refine bodyPost_ret (v := .tuple #[.int .i64 ((n1 + 257 : Nat) : Int), .int .i64 ((n2 + 1 : Nat) : Int), .int .i64 ((n3 + 4 : Nat) : Int), .nilIface]) (by simp [results, Tryz.results190, go_sem]) rfl (.inl ⟨n1 + 257, n2 + 1, n3 + 4, ?_, by omega, h1, by omega, h2, by omega, by omega, rfl, c3, (a4.trans b4).trans c4⟩)
  unfold hdrT
  (try dsimp only)
  rw [N1.out]
  (try dsimp only)
  rw [N2.out]
  (try dsimp only)
  rw [N3.out]
  unfold hdrSt
  rw [if_neg (by first | omega | (dsimp only; omega))]
end Go.Proofs.YtblgcjecpjgppaaGreatDoor.Pr
/- The walk of stored. -/
set_option linter.unusedVariables false
namespace Go.Proofs.YtblgcjecpjgppaaGreatDoor.Rf
theorem turn16 (c : Nat) (h : c < 65536) : 65535 ^^^ c = 65535 - c := by
  apply Nat.eq_of_testBit_eq
  intro i
  have e := Nat.testBit_two_pow_sub_succ (n := 16) (x := c) h i
  have f := Nat.testBit_two_pow_sub_one 16 i
  rw [show (65535 : Nat) - c = 2 ^ 16 - (c + 1) by omega, Nat.testBit_xor, e, show (65535 : Nat) = 2 ^ 16 - 1 by omega, f]
  by_cases hi : i < 16
  · simp [hi]
  · have : c.testBit i = false := Nat.testBit_lt_two_pow (Nat.lt_of_lt_of_le h (Nat.pow_le_pow_right (n := 2) (by omega) (show 16 ≤ i by omega)))
    simp [hi, this]
theorem xor_sum (a b : Nat) (ha : a < 65536) (hb : b < 65536) : a ^^^ b = 65535 ↔ a + b = 65535 := by
  constructor
  · intro h
    have h2 : b = 65535 ^^^ a := by
      rw [← h, Nat.xor_comm a b, Nat.xor_assoc, Nat.xor_self, Nat.xor_zero]
    rw [turn16 a ha] at h2
    omega
  · intro h
    have h2 : b = 65535 ^^^ a := by rw [turn16 a ha]; omega
    rw [h2, Nat.xor_comm 65535 a, ← Nat.xor_assoc, Nat.xor_self, Nat.zero_xor]
theorem storedT_bad (s : ByteArray) (most : Nat) (u : US) (h : (headT s u.st).2.bad = true) : (storedT s most u).st.bad = true := by
  unfold storedT
  rw [stL_bad s most _ _ h]; exact h
theorem stL_over (s : ByteArray) (most : Nat) (n : Nat) : ∀ u : US, most < u.out.length + n → u.out.length ≤ most → (stL s most n u).st.bad = true := by
  induction n with
  | zero => intro u h h2; omega
  | succ n ih =>
    intro u h h2
    by_cases hb : u.st.bad = true
    · rw [stL_bad s most _ _ hb]; exact hb
    · have hb' : u.st.bad = false := by simpa using hb
      rw [stL_go s most n u hb']
      by_cases hn : (numT s 8 u.st).2.bad = true
      · by_cases hf : most ≤ u.out.length
        · rw [putT_full most _ ⟨(numT s 8 u.st).2, u.out⟩ hf, stL_bad s most _ _ rfl]
        · rw [putT_bad most _ ⟨(numT s 8 u.st).2, u.out⟩ hf hn, stL_bad s most _ _ hn]; exact hn
      · have hn' : (numT s 8 u.st).2.bad = false := by simpa using hn
        by_cases hf : most ≤ u.out.length
        · rw [putT_full most _ ⟨(numT s 8 u.st).2, u.out⟩ hf, stL_bad s most _ _ rfl]
        · rw [putT_go most _ ⟨(numT s 8 u.st).2, u.out⟩ hf hn']
          exact ih _ (by simp; omega) (by simp; omega)
end Go.Proofs.YtblgcjecpjgppaaGreatDoor.Rf
namespace Go.Proofs.YtblgcjecpjgppaaGreatDoor.Pr
open Go.RowKit Rf
set_option maxRecDepth 10000 in
set_option maxHeartbeats 8000000 in
theorem stored_any (S : Sink) (A : Adr) (s : ByteArray) (win most : Nat) (u : US) (w : World) (hP : PutOk S A.base) (h : UP S w A s win most u) (hs : s.size ≤ 140737488354000) (hm : most ≤ 16777216) (hw1 : 1 ≤ win) (hw2 : win ≤ 32768) :
    Calls Tryz.prog 129 #[.pointer (some ⟨A.ub, 0, none⟩)] w fun e w' => Res S A s win most w (storedT s most u) e w' := by
  have hbad := h.facts.1
  obtain ⟨⟨pos, bad⟩, out⟩ := u
  dsimp only at hbad
  subst hbad
  obtain ⟨c0, _, _, _⟩ := h.cells
  obtain ⟨f1, f2, f3⟩ := h.facts
  dsimp only at f2
  have hal : alignT ⟨pos, false⟩ = ⟨(pos + 7) / 8 * 8, false⟩ := rfl
  go_enter Tryz.func129, Tryz.ntmps129
  go_wp2_with fail
  refine (align_any A.tb A.rb s pos _ f2).mono ?_
  rintro e w1 ⟨rfl, g1, g2⟩
  have hU1 := h.rd _ g1 g2
  obtain ⟨p0, hp0⟩ : ∃ p0, p0 = (pos + 7) / 8 * 8 := ⟨_, rfl⟩
  rw [← hp0] at hU1 g1
  have HH : Hid (headT s ⟨pos, false⟩ = ((numT s 16 ⟨p0, false⟩).1, if (numT s 16 ⟨p0, false⟩).1 + (numT s 16 (numT s 16 ⟨p0, false⟩).2).1 = 65535 then (numT s 16 (numT s 16 ⟨p0, false⟩).2).2 else ⟨(numT s 16 (numT s 16 ⟨p0, false⟩).2).2.pos, true⟩)) := (by unfold headT; rw [hal, ← hp0] : _ = _)
  clear hp0 c0 hal
  obtain ⟨hU1, hP1⟩ := hU1
  obtain ⟨c0, _, _, _⟩ := hU1.cells
  obtain ⟨_, f2, _⟩ := hU1.facts
  go_wp2_with fail
  refine (number_any A.tb A.rb s p0 16 _ f2 hs (by omega)).mono ?_
  rintro e w2 (⟨a1, a2, rfl, a3, a4⟩ | ⟨⟨T, a, rfl, a1⟩, a3, a4⟩)
  rotate_left
  · have HW : Why A.tb w2 T a (Stop S (storedT s most ⟨⟨pos, false⟩, out⟩)) := a1.imp (fun a1 => .inl (storedT_bad s most _ (by
      dsimp only
      rw [HH.out]
      dsimp only
      split
      · exact numT_keep s 16 _ a1
      · rfl)))
    clear a1
    go_wp2_with fail
    go_ret
    have hfin := hU1.rdE a3 a4
    exact .inr ⟨⟨T, a, rfl, HW⟩, hfin.1, hP1.trans hfin.2⟩
  obtain ⟨hU2, hP2⟩ := hU1.rd _ a3 a4
  have N1 : Hid (numT s 16 ⟨p0, false⟩ = (bitsV s p0 16, ⟨p0 + 16, false⟩)) := numT_ok s 16 p0 a2
  have hb1 : bitsV s p0 16 < 65536 := bitsV_lt s p0 16
  clear c0 f2
  obtain ⟨c0, _, _, _⟩ := hU2.cells
  obtain ⟨_, f2, _⟩ := hU2.facts
  dsimp only at f2
  generalize hb10 : bitsV s p0 16 = n1 at *
  go_wp2_with fail
  refine (number_any A.tb A.rb s (p0 + 16) 16 _ f2 hs (by omega)).mono ?_
  rintro e w3 (⟨b1, b2, rfl, b3, b4⟩ | ⟨⟨T, a, rfl, b1⟩, b3, b4⟩)
  rotate_left
  · have HW : Why A.tb w3 T a (Stop S (storedT s most ⟨⟨pos, false⟩, out⟩)) := b1.imp (fun b1 => .inl (storedT_bad s most _ (by
      dsimp only
      rw [HH.out, N1.out]
      dsimp only
      split
      · exact b1
      · rfl)))
    clear b1
    go_wp2_with fail
    go_ret
    have hfin := hU2.rdE b3 b4
    exact .inr ⟨⟨T, a, rfl, HW⟩, hfin.1, (hP1.trans hP2).trans hfin.2⟩
  obtain ⟨hU3, hP3⟩ := hU2.rd _ b3 b4
  have N2 : Hid (numT s 16 ⟨p0 + 16, false⟩ = (bitsV s (p0 + 16) 16, ⟨p0 + 16 + 16, false⟩)) := numT_ok s 16 (p0 + 16) b2
  have hb2 : bitsV s (p0 + 16) 16 < 65536 := bitsV_lt s (p0 + 16) 16
  clear c0 f2
  generalize hb20 : bitsV s (p0 + 16) 16 = n2 at *
  have hxor := i64_xor_nat n1 n2 (by omega) (by omega)
  have HX : Hid _ := xor_sum n1 n2 hb1 hb2
  obtain ⟨xx, hxx⟩ : ∃ xx, xx = n1 ^^^ n2 := ⟨_, rfl⟩
  rw [← hxx] at hxor
  have HX2 : Hid (xx = 65535 ↔ n1 + n2 = 65535) := (by rw [hxx]; exact HX.out : _ ↔ _)
  clear hxx
  have hP123 := (hP1.trans hP2).trans hP3
  by_cases hfit : xx = 65535
  rotate_left
  · have dx : ((xx : Int) == 65535) = false := by rw [beq_eq_false_iff_ne]; omega
    have dx2 : decide ((xx : Int) = 65535) = false := decide_eq_false (by omega)
    go_wp2_with fail
    refine (mal_any _ _).mono ?_
    rintro e w4 ⟨rfl, rfl⟩
    go_wp2_with fail
    go_ret
    refine .inr ⟨⟨_, _, rfl, Why.mal (.inl (storedT_bad s most _ ?_))⟩, hU3.ue.alloc _, hP123.trans (PE.alloc _ _ _ hU3.base)⟩
    dsimp only
    rw [HH.out, N1.out]
    dsimp only
    rw [N2.out]
    dsimp only
    rw [if_neg (fun e => hfit (HX2.out.2 e))]
  have dx : ((xx : Int) == 65535) = true := by rw [beq_iff_eq]; omega
  have dx2 : decide ((xx : Int) = 65535) = true := decide_eq_true (by omega)
  have HT : Hid (storedT s most ⟨⟨pos, false⟩, out⟩ = stL s most n1 ⟨⟨p0 + 16 + 16, false⟩, out⟩) := (by
    unfold storedT
    rw [HH.out, N1.out]
    dsimp only
    rw [N2.out]
    dsimp only
    rw [if_pos (HX2.out.1 hfit)] : _ = _)
  clear hfit
  go_wp2_with fail
  refine (room_any S A s win most n1 _ _ hU3 hm (by omega)).mono ?_
  rintro e w4 (⟨k1, rfl, hw⟩ | ⟨⟨T, a, rfl, k1⟩, k2, k3⟩)
  rotate_left
  · have HW : Why A.tb w4 T a (Stop S (storedT s most ⟨⟨pos, false⟩, out⟩)) := k1.imp (fun k1 => .inl (by rw [HT.out]; exact stL_over s most n1 _ (by dsimp only at k1 ⊢; omega) hU3.facts.2.2))
    clear k1
    go_wp2_with fail
    go_ret
    exact .inr ⟨⟨T, a, rfl, HW⟩, k2, hP123.trans k3⟩
  have hw := hw.symm
  subst hw
  dsimp only at k1
  go_wp2_with fail
  go_loopw [49] (fun iv wr => ∃ (j : Nat) (t : US), j ≤ n1 ∧ iv = .int .i64 (j : Int) ∧ stL s most n1 ⟨⟨p0 + 16 + 16, false⟩, out⟩ = stL s most (n1 - j) t ∧ t.out.length = out.length + j ∧ UP S wr A s win most t ∧ PE A.base w wr) (fun iv _ => n1 - (intOf iv).toNat)
  case atStart => exact ⟨0, ⟨⟨p0 + 16 + 16, false⟩, out⟩, Nat.zero_le _, rfl, rfl, rfl, hU3, hP123⟩
  case round =>
    clear hU3 hP123 hU2 hU1 hP1 hP2 hP3
    obtain ⟨j, t, hj, rfl, ht1, ht2, hU, hPE⟩ := hrel
    have HTT : Hid _ := ht1
    have HL : Hid (t.out.length = out.length + j) := ht2
    clear ht1 ht2
    have hbad := hU.facts.1
    obtain ⟨⟨tp, bad⟩, tout⟩ := t
    dsimp only at hbad
    subst hbad
    by_cases hlt : j < n1
    · obtain ⟨c0, _, _, _⟩ := hU.cells
      obtain ⟨_, f2, _⟩ := hU.facts
      dsimp only at f2
      have H1 : Hid (stL s most (n1 - j) ⟨⟨tp, false⟩, tout⟩ = stL s most (n1 - (j + 1)) (putT most (UInt8.ofNat (numT s 8 ⟨tp, false⟩).1) ⟨(numT s 8 ⟨tp, false⟩).2, tout⟩)) := (by
        rw [show n1 - j = (n1 - (j + 1)) + 1 by omega]; exact stL_go s most _ _ rfl : _ = _)
      go_wp2_with fail
      refine (number_any A.tb A.rb s tp 8 _ f2 hs (by omega)).mono ?_
      rintro e w2 (⟨a1, a2, rfl, a3, a4⟩ | ⟨⟨T, a, rfl, a1⟩, a3, a4⟩)
      · obtain ⟨hU2, hP2⟩ := hU.rd _ a3 a4
        have hb8 : bitsV s tp 8 < 256 := bitsV_lt s tp 8
        have N8 : Hid (numT s 8 ⟨tp, false⟩ = (bitsV s tp 8, ⟨tp + 8, false⟩)) := numT_ok s 8 tp a2
        have hto : (UInt8.ofNat (bitsV s tp 8)).toNat = bitsV s tp 8 := by simp; omega
        have hlm : tout.length < most := by have := HL.out; (try dsimp only at this); omega
        have H2 : Hid (putT most (UInt8.ofNat (numT s 8 ⟨tp, false⟩).1) ⟨(numT s 8 ⟨tp, false⟩).2, tout⟩ = ⟨⟨tp + 8, false⟩, tout ++ [UInt8.ofNat (bitsV s tp 8)]⟩) := (by
          rw [N8.out]; exact putT_go most _ _ (by dsimp only; omega) rfl : _ = _)
        have hput := hP A s win most ⟨⟨tp + 8, false⟩, tout⟩ (UInt8.ofNat (bitsV s tp 8)) w2 rfl hU2 hlm hm hw1 hw2
        rw [hto] at hput
        clear hto c0 f2
        go_wp2_with fail
        refine hput.mono ?_
        rintro e w3 (⟨rfl, g1, g2⟩ | ⟨⟨T, a, rfl, g0⟩, g1, g2⟩)
        rotate_left
        · have HW : Why A.tb w3 T a (Stop S (storedT s most ⟨⟨pos, false⟩, out⟩)) := g0.imp (fun hst => .inr ⟨_, hst, by
            rw [HT.out, HTT.out, H1.out, H2.out]; exact stL_pre s most _ ⟨⟨tp + 8, false⟩, tout ++ [UInt8.ofNat (bitsV s tp 8)]⟩⟩)
          clear g0
          go_wp2_with fail
          go_ret
          exact .inr ⟨⟨T, a, rfl, HW⟩, g1, hPE.trans (hP2.trans g2)⟩
        go_wp2_with fail
        go_roundw
        case rel => exact ⟨j + 1, _, by omega, by go_num, HTT.out.trans (H1.out.trans (by rw [H2.out])), by simp only [List.length_append, List.length_singleton]; have := HL.out; (try dsimp only at this); omega, g1, hPE.trans (hP2.trans g2)⟩
        case measure => simp [intOf]; omega
      · have hfin := hU.rdE a3 a4
        have HW : Why A.tb w2 T a (Stop S (storedT s most ⟨⟨pos, false⟩, out⟩)) := a1.imp (fun a1 => .inl (by
          rw [HT.out, HTT.out, H1.out]
          by_cases hf : most ≤ tout.length
          · rw [putT_full most _ _ hf, stL_bad s most _ _ rfl]
          · rw [putT_bad most _ _ hf a1, stL_bad s most _ _ a1]; exact a1))
        clear a1
        go_wp2_with fail
        go_ret
        exact .inr ⟨⟨T, a, rfl, HW⟩, hfin.1, hPE.trans hfin.2⟩
    · have H2 : Hid (stL s most n1 ⟨⟨p0 + 16 + 16, false⟩, out⟩ = ⟨⟨tp, false⟩, tout⟩) := (by rw [HTT.out, show n1 - j = 0 by omega]; rfl : _ = _)
      go_wp2_with fail
      go_ret
      exact .inl ⟨by rw [HT.out, H2.out], rfl, by rw [HT.out, H2.out]; exact hU, hPE⟩
end Go.Proofs.YtblgcjecpjgppaaGreatDoor.Pr
