/- The unpacker in memory; what a step may turn; room. -/
import Derived.Test.YtephkcdbnogdhaaGreatDoorMA
import Derived.Test.YtephkcdbnogdhaaGreatDoorML
set_option linter.unusedVariables false
namespace Go.Proofs.YtephkcdbnogdhaaGreatDoor.Pr
open Go.RowKit Rf
open RfW (byteCells byteCells_snoc)
/-- where things lie -/
structure Adr where
  tb : Src
  rb : Nat
  gb : Nat
  ub : Nat
  al : Bool
/-- what lies below never turns -/
abbrev Adr.base (A : Adr) : Nat := A.tb.base
/-- where bytes go: a function's value; what holds of the memory behind it, and in which blocks; behind which bytes it refuses -/
structure Sink where
  fv : Value
  K : World → List UInt8 → (Nat → Prop) → Prop
  stop : List UInt8 → Prop
structure Sink.Ok (S : Sink) (base : Nat) : Prop where
  lt : ∀ {w out F}, S.K w out F → ∀ k, F k → k < w.heap.size
  stable : ∀ {w w' out F}, S.K w out F → (∀ k, F k ∨ k < base → w'.heap[k]? = w.heap[k]?) → w.heap.size ≤ w'.heap.size → S.K w' out F
/-- types of blocks that may turn -/
def busyT (T : TypeId) : Bool := srcT T || (T == 5 || T == 180 || T == 231 || T == 185 || T == 78 || T == 174 || T == 299 || T == 39 || T == 134 || T == 292 || T == 286 || T == 303 || T == 301)
theorem busy_src {T : TypeId} (h : busyT T = false) : srcT T = false := (Bool.or_eq_false_iff.1 h).1
/-- nothing below base has turned, and no block of another type -/
structure PE (base : Nat) (w w' : World) : Prop where
  os : w'.os = w.os
  tape : w'.tape = w.tape
  output : w'.output = w.output
  size : w.heap.size ≤ w'.heap.size
  low : ∀ k, k < base → w'.heap[k]? = w.heap[k]?
  other : ∀ (k : Nat) (cur : Array Value) (T : TypeId) (f : Nat × Nat), w.heap[k]? = some (Obj.cells cur T f) → busyT T = false → w'.heap[k]? = w.heap[k]?
theorem PE.refl (base : Nat) (w : World) : PE base w w := ⟨rfl, rfl, rfl, Nat.le_refl _, fun _ _ => rfl, fun _ _ _ _ _ _ => rfl⟩
theorem PE.trans {base : Nat} {u v w : World} (h : PE base u v) (k : PE base v w) : PE base u w :=
  ⟨k.os.trans h.os, k.tape.trans h.tape, k.output.trans h.output, Nat.le_trans h.size k.size, fun i hi => (k.low i hi).trans (h.low i hi), fun i cur T f e hT => by
    have h1 := h.other i cur T f e hT
    exact (k.other i cur T f (h1.trans e) hT).trans h1⟩
theorem PE.below {base : Nat} {w w' : World} (h : PE base w w') : Below base w w' := ⟨h.os, h.tape, h.output, h.size, h.low⟩
theorem PE.drewN (base : Nat) (w : World) (n : Nat) : PE base w (w.drewN n) := ⟨rfl, rfl, rfl, Nat.le_refl _, fun _ _ => rfl, fun _ _ _ _ _ _ => rfl⟩
theorem TabM.pe {base : Nat} {w w' : World} {k : Nat} {mean : Nat → Nat × Nat × Nat} {L : List Nat} (h : TabM w k mean L) (e : PE base w w') : TabM w' k mean L := by
  obtain ⟨vb, vcur, ⟨cur, a, b⟩, c, d⟩ := h
  exact ⟨vb, vcur, ⟨cur, (e.other k _ _ _ a (by decide)).trans a, b⟩, (e.other vb _ _ _ c (by decide)).trans c, d⟩
theorem TabsIs.pe {base : Nat} {w w' : World} {k : Nat} {A B : List Nat} (h : TabsIs w k A B) (e : PE base w w') : TabsIs w' k A B := by
  obtain ⟨ka, kb, h1, h2, h3⟩ := h
  exact ⟨ka, kb, (e.other k _ _ _ h1 (by decide)).trans h1, h2.pe e, h3.pe e⟩
theorem RF.pe {w w' : World} {tb : Src} {rb : Nat} {s : ByteArray} {pos : Nat} (h : RF tb rb w w') (hr : Rd w tb rb s pos) : PE tb.base w w' := by
  have hl := hr.lts
  have hOk : tb.Ok := by obtain ⟨_, _, _, _, _, _, _, h5, _⟩ := hr; exact h5
  refine ⟨h.os, h.tape, h.output, h.size, fun k hk => h.block k (by omega) (fun e => by have := hOk.low k e; omega) (by omega), fun k cur T f e hT => ?_⟩
  have hn := hr.types e (busy_src hT) (fun e => by rw [e] at hT; revert hT; decide)
  exact h.block k (lt_of_some e) hn.1 hn.2
/-- the order of the nineteen as the program's text lays it -/
def OrderIs (w : World) : Prop := ∀ i, i < 19 → w.cell? ⟨6, i, none⟩ = some (.int .u8 ((order.getD i 0 : Nat) : Int))
theorem OrderIs.over {w w' : World} (h : OrderIs w) (e : w'.heap[6]? = w.heap[6]?) : OrderIs w' := by
  intro i hi
  have := h i hi
  unfold World.cell? at this ⊢
  rw [e]; exact this
theorem row_src {w : World} {base : Nat} {v : Value} {n : Nat} {xs : List Value} (h : w.ownsRow base 5 1 v n xs) {tb : Src} (hS : tb.Ok) (hK : tb.KE w) {k : Nat} (hk : v.ownBlock = some k) : ¬ tb.F k := fun hF => by
  obtain ⟨cur, T, f, h1, h2⟩ := hS.typ hK hF
  exact row_ne h h1 (fun e => by rw [e] at h2; revert h2; decide) hk
/-- the unpacker, where nothing has gone wrong -/
def UP (S : Sink) (w : World) (A : Adr) (s : ByteArray) (win most : Nat) (u : US) : Prop := ∃ vr F fx,
  u.st.bad = false ∧ Rd w A.tb A.rb s u.st.pos ∧ u.out.length ≤ most ∧ RingAt w A.gb A.base vr win u.out ∧
  w.heap[A.ub]? = some (.cells #[.pointer (some ⟨A.rb, 0, none⟩), .pointer (some ⟨A.gb, 0, none⟩), .int .i64 ((most - u.out.length : Nat) : Int), .bool A.al, S.fv, .pointer fx] 185 (0, 0)) ∧
  (fx = none ∨ ∃ kf, fx = some ⟨kf, 0, none⟩ ∧ TabsIs w kf fixList (List.replicate 32 5)) ∧ S.K w u.out F ∧
  (∀ k, F k → A.base ≤ k ∧ ¬ A.tb.F k ∧ k ≠ A.rb ∧ k ≠ A.gb ∧ k ≠ A.ub ∧ vr.ownBlock ≠ some k) ∧ A.tb.Ok ∧ OrderIs w ∧
  7 ≤ A.base ∧ S.Ok A.base ∧ A.base ≤ A.rb ∧ A.base ≤ A.gb ∧ A.base ≤ A.ub
/-- the unpacker behind an error -/
def UE (w : World) (A : Adr) (s : ByteArray) : Prop := RdE w A.tb A.rb s ∧ ∃ g l b f x, w.heap[A.ub]? = some (.cells #[.pointer (some ⟨A.rb, 0, none⟩), g, l, b, f, x] 185 (0, 0))
/-- something is not as it must be, or the sink refuses what comes out -/
def Stop (S : Sink) (U : US) : Prop := U.st.bad = true ∨ ∃ p, S.stop p ∧ p <+: U.out
theorem Stop.mono {S : Sink} {U V : US} (h : Stop S U) (h1 : U.st.bad = true → V.st.bad = true) (h2 : U.out <+: V.out) : Stop S V := h.imp h1 (fun ⟨p, a, b⟩ => ⟨p, a, b.trans h2⟩)
/-- how a step ends -/
def Res (S : Sink) (A : Adr) (s : ByteArray) (win most : Nat) (w : World) (U : US) (e : Ending) (w' : World) : Prop :=
  (U.st.bad = false ∧ e = .returned .nilIface ∧ UP S w' A s win most U ∧ PE A.base w w') ∨
  ((∃ T a, e = .returned (.iface T (.pointer (some a))) ∧ Why A.tb w' T a (Stop S U)) ∧ UE w' A s ∧ PE A.base w w')
theorem UP.rd {S : Sink} {w w' : World} {A : Adr} {s : ByteArray} {win most : Nat} {u : US} (h : UP S w A s win most u) (p : Nat) (hr : Rd w' A.tb A.rb s p) (hf : RF A.tb A.rb w w') : UP S w' A s win most ⟨⟨p, false⟩, u.out⟩ ∧ PE A.base w w' := by
  obtain ⟨vr, F, fx, h1, h2, h3, h4, h5, h6, h7, h8, h9, h10, h11, h12, h13, h14, h15⟩ := h
  have hp : PE A.base w w' := hf.pe h2
  have hgb := h2.types h4.1 (by decide) (by decide)
  have hub := h2.types h5 (by decide) (by decide)
  have hl := h2.lts
  refine ⟨⟨vr, F, fx, rfl, hr, h3, ⟨?_, ?_, ?_⟩, ?_, ?_, ?_, h8, h9, ?_, h11, h12, h13, h14, h15⟩, hp⟩
  · exact (hf.block _ (lt_of_some h4.1) hgb.1 hgb.2).trans h4.1
  · have hke : A.tb.KE w := by obtain ⟨_, _, _, _, _, _, h4, h5, _⟩ := h2; exact h5.ke h4
    obtain ⟨c, hc, t, _, _, _, g4, _, g5⟩ := h2
    exact ownsRow_over h4.2.1 (fun k hk => hf.block k (h4.2.1.lt k hk).2 (row_src h4.2.1 h9 hke hk) (fun e => row_ne h4.2.1 g5 (by decide) (e ▸ hk)))
  · exact Nat.le_trans h4.2.2 hf.size
  · exact (hf.block _ (lt_of_some h5) hub.1 hub.2).trans h5
  · exact h6.imp id (fun ⟨kf, e, h⟩ => ⟨kf, e, h.pe hp⟩)
  · exact h12.stable h7 (fun k hk => hk.elim (fun hk => hf.block k (h12.lt h7 k hk) (h8 k hk).2.1 (h8 k hk).2.2.1) (fun hk => hp.low k hk)) hf.size
  · exact h10.over (hp.low _ (by omega))
theorem UP.ue {S : Sink} {w : World} {A : Adr} {s : ByteArray} {win most : Nat} {u : US} (h : UP S w A s win most u) : UE w A s := by
  obtain ⟨vr, F, fx, h1, h2, h3, h4, h5, h6, h7, h8, h9, h10, h11, h12, h13, h14, h15⟩ := h
  exact ⟨h2.rdE, _, _, _, _, _, h5⟩
/-- an error that the reader tells -/
theorem UP.rdE {S : Sink} {w w' : World} {A : Adr} {s : ByteArray} {win most : Nat} {u : US} (h : UP S w A s win most u) (hr : RdE w' A.tb A.rb s) (hf : RF A.tb A.rb w w') : UE w' A s ∧ PE A.base w w' := by
  obtain ⟨vr, F, fx, h1, h2, h3, h4, h5, h6, h7, h8, h9, h10, h11, h12, h13, h14, h15⟩ := h
  have hub := h2.types h5 (by decide) (by decide)
  exact ⟨⟨hr, _, _, _, _, _, (hf.block _ (lt_of_some h5) hub.1 hub.2).trans h5⟩, hf.pe h2⟩
/-- memory that is laid new -/
theorem UP.alloc {S : Sink} {w : World} {A : Adr} {s : ByteArray} {win most : Nat} {u : US} (h : UP S w A s win most u) (o : Obj) : UP S (w.alloc o) A s win most u ∧ PE A.base w (w.alloc o) := by
  have hr : Rd w A.tb A.rb s u.st.pos := by obtain ⟨_, _, _, _, h2, _⟩ := h; exact h2
  have h0 : u.st.bad = false := by obtain ⟨_, _, _, h1, _⟩ := h; exact h1
  have h3 := h.rd u.st.pos (hr.alloc o) ((RF.refl _ _ w).alloc o)
  rw [← h0] at h3
  exact h3
theorem UP.grow {S : Sink} {w w' : World} {A : Adr} {s : ByteArray} {win most : Nat} {u : US} (h : UP S w A s win most u) (hb : Below w.heap.size w w') : UP S w' A s win most u ∧ PE A.base w w' := by
  have hr : Rd w A.tb A.rb s u.st.pos := by obtain ⟨_, _, _, _, h2, _⟩ := h; exact h2
  have h0 : u.st.bad = false := by obtain ⟨_, _, _, h1, _⟩ := h; exact h1
  have h3 := h.rd (w' := w') u.st.pos (hr.grow (fun k hk => hb.block k hk)) ⟨hb.os, hb.tape, hb.output, hb.size, fun k hk _ _ => hb.block k hk⟩
  rw [← h0] at h3
  exact h3
theorem UE.alloc {w : World} {A : Adr} {s : ByteArray} (h : UE w A s) (o : Obj) : UE (w.alloc o) A s := by
  obtain ⟨h1, g, l, b, f, x, h2⟩ := h
  exact ⟨h1.alloc o, g, l, b, f, x, (alloc_old (lt_of_some h2)).trans h2⟩
theorem UE.drewN {w : World} {A : Adr} {s : ByteArray} (h : UE w A s) (n : Nat) : UE (w.drewN n) A s := by
  obtain ⟨h1, g, l, b, f, x, h2⟩ := h
  exact ⟨h1.drewN n, g, l, b, f, x, h2⟩
theorem UP.cells {S : Sink} {w : World} {A : Adr} {s : ByteArray} {win most : Nat} {u : US} (h : UP S w A s win most u) : w.cell? ⟨A.ub, 0, none⟩ = some (.pointer (some ⟨A.rb, 0, none⟩)) ∧ w.cell? ⟨A.ub, 1, none⟩ = some (.pointer (some ⟨A.gb, 0, none⟩)) ∧ w.cell? ⟨A.ub, 2, none⟩ = some (.int .i64 ((most - u.out.length : Nat) : Int)) ∧ w.cell? ⟨A.ub, 4, none⟩ = some S.fv := by
  obtain ⟨vr, F, fx, h1, h2, h3, h4, h5, h6, h7, h8, h9, h10, h11, h12, h13, h14, h15⟩ := h
  exact ⟨by simpa using (cell_of h5 0).1, by simpa using (cell_of h5 1).1, by simpa using (cell_of h5 2).1, by simpa using (cell_of h5 4).1⟩
theorem UP.all {S : Sink} {w : World} {A : Adr} {s : ByteArray} {win most : Nat} {u : US} (h : UP S w A s win most u) : w.cell? ⟨A.ub, 3, none⟩ = some (.bool A.al) := by
  obtain ⟨vr, F, fx, h1, h2, h3, h4, h5, h6, h7, h8, h9, h10, h11, h12, h13, h14, h15⟩ := h
  simpa using (cell_of h5 3).1
theorem UP.facts {S : Sink} {w : World} {A : Adr} {s : ByteArray} {win most : Nat} {u : US} (h : UP S w A s win most u) : u.st.bad = false ∧ Rd w A.tb A.rb s u.st.pos ∧ u.out.length ≤ most := by
  obtain ⟨vr, F, fx, h1, h2, h3, h4, h5, h6, h7, h8, h9, h10, h11, h12, h13, h14, h15⟩ := h
  exact ⟨h1, h2, h3⟩
theorem PE.alloc (base : Nat) (w : World) (o : Obj) (h : base ≤ w.heap.size) : PE base w (w.alloc o) := ⟨rfl, rfl, rfl, by simp, fun k hk => alloc_old (by omega), fun k cur T f e _ => alloc_old (lt_of_some e)⟩
theorem UP.base {S : Sink} {w : World} {A : Adr} {s : ByteArray} {win most : Nat} {u : US} (h : UP S w A s win most u) : A.base ≤ w.heap.size := by
  obtain ⟨vr, F, fx, h1, h2, h3, h4, h5, h6, h7, h8, h9, h10, h11, h12, h13, h14, h15⟩ := h
  have := h2.lts; omega
set_option maxRecDepth 10000 in
set_option maxHeartbeats 2000000 in
theorem room_yes (S : Sink) (A : Adr) (s : ByteArray) (win most n : Nat) (u : US) (w : World) (h : UP S w A s win most u) (hm : most ≤ 16777216) (hn : n ≤ 1000000) (hle : u.out.length + n ≤ most) :
    Calls Tryz.prog 194 #[.pointer (some ⟨A.ub, 0, none⟩), .int .i64 (n : Int)] w fun e w' => e = .returned .nilIface ∧ w' = w := by
  obtain ⟨c0, c1, c2, c3⟩ := h.cells
  have hol : u.out.length ≤ most := h.facts.2.2
  clear c0 c1 c3
  obtain ⟨l, hl⟩ : ∃ l, l = most - u.out.length := ⟨_, rfl⟩
  rw [← hl] at c2
  have hl2 : l ≤ 16777216 := by omega
  have d1 : decide ((l : Int) < (n : Int)) = false := decide_eq_false (by omega)
  have d2 : n ≤ l := by omega
  clear hl hle
  go_enter Tryz.func194, Tryz.ntmps194
  go_wp2_with fail
  go_ret
  exact ⟨rfl, rfl⟩
set_option maxRecDepth 10000 in
set_option maxHeartbeats 2000000 in
theorem room_no (S : Sink) (A : Adr) (s : ByteArray) (win most n : Nat) (u : US) (w : World) (h : UP S w A s win most u) (hm : most ≤ 16777216) (hn : n ≤ 1000000) (hle : ¬ u.out.length + n ≤ most) :
    Calls Tryz.prog 194 #[.pointer (some ⟨A.ub, 0, none⟩), .int .i64 (n : Int)] w fun e w' => ∃ T a, e = .returned (.iface T (.pointer (some a))) ∧ IsMal w' T a ∧ UE w' A s ∧ PE A.base w w' := by
  obtain ⟨c0, c1, c2, c3⟩ := h.cells
  have hol : u.out.length ≤ most := h.facts.2.2
  clear c0 c1 c3
  obtain ⟨l, hl⟩ : ∃ l, l = most - u.out.length := ⟨_, rfl⟩
  rw [← hl] at c2
  have hl2 : l ≤ 16777216 := by omega
  have d1 : decide ((l : Int) < (n : Int)) = true := decide_eq_true (by omega)
  have d2 : l < n := by omega
  clear hl hle
  go_enter Tryz.func194, Tryz.ntmps194
  go_wp2_with fail
  refine (mal_any _ _).mono ?_
  rintro e w3 ⟨rfl, rfl⟩
  go_wp2_with fail
  go_ret
  exact ⟨_, _, rfl, IsMal.mk _ _, h.ue.alloc _, PE.alloc _ _ _ h.base⟩
theorem room_any (S : Sink) (A : Adr) (s : ByteArray) (win most n : Nat) (u : US) (w : World) (h : UP S w A s win most u) (hm : most ≤ 16777216) (hn : n ≤ 1000000) :
    Calls Tryz.prog 194 #[.pointer (some ⟨A.ub, 0, none⟩), .int .i64 (n : Int)] w fun e w' =>
      (u.out.length + n ≤ most ∧ e = .returned .nilIface ∧ w' = w) ∨ ((∃ T a, e = .returned (.iface T (.pointer (some a))) ∧ Why A.tb w' T a (¬ u.out.length + n ≤ most)) ∧ UE w' A s ∧ PE A.base w w') := by
  by_cases hle : u.out.length + n ≤ most
  · exact (room_yes S A s win most n u w h hm hn hle).mono (fun e w' ⟨a, b⟩ => .inl ⟨hle, a, b⟩)
  · exact (room_no S A s win most n u w h hm hn hle).mono (fun e w' ⟨T, a, h1, h2, h3, h4⟩ => .inr ⟨⟨T, a, h1, .inl ⟨h2, hle⟩⟩, h3, h4⟩)
set_option maxRecDepth 10000 in
set_option maxHeartbeats 2000000 in
theorem enough_any (S : Sink) (A : Adr) (s : ByteArray) (win most n : Nat) (u : US) (w : World) (h : UP S w A s win most u) (hm : most ≤ 16777216) (hn : n ≤ 1000000) :
    Calls Tryz.prog 138 #[.pointer (some ⟨A.ub, 0, none⟩), .int .i64 (n : Int)] w fun e w' =>
      ((A.al = true → most ≤ u.out.length + n) ∧ e = .returned .nilIface ∧ w' = w) ∨ ((∃ T a, e = .returned (.iface T (.pointer (some a))) ∧ Why A.tb w' T a (A.al = true ∧ u.out.length + n < most)) ∧ UE w' A s ∧ PE A.base w w') := by
  obtain ⟨c0, c1, c2, c3⟩ := h.cells
  have c4 := h.all
  have hol : u.out.length ≤ most := h.facts.2.2
  clear c0 c1 c3
  obtain ⟨l, hl⟩ : ∃ l, l = most - u.out.length := ⟨_, rfl⟩
  rw [← hl] at c2
  have hl2 : l ≤ 16777216 := by omega
  cases hal : A.al with
  | false =>
    rw [hal] at c4
    clear hl
    go_enter Tryz.func138, Tryz.ntmps138
    go_wp2_with fail
    go_ret
    exact .inl ⟨fun e => (by cases e), rfl, rfl⟩
  | true =>
    rw [hal] at c4
    by_cases hle : l ≤ n
    · have d1 : decide ((n : Int) < (l : Int)) = false := decide_eq_false (by omega)
      have H : Hid (most ≤ u.out.length + n) := (by omega : _ ≤ _)
      clear hl
      go_enter Tryz.func138, Tryz.ntmps138
      go_wp2_with fail
      go_ret
      exact .inl ⟨fun _ => H.out, rfl, rfl⟩
    · have d1 : decide ((n : Int) < (l : Int)) = true := decide_eq_true (by omega)
      have H : Hid (u.out.length + n < most) := (by omega : _ < _)
      clear hl
      go_enter Tryz.func138, Tryz.ntmps138
      go_wp2_with fail
      refine (mal_any _ _).mono ?_
      rintro e w3 ⟨rfl, rfl⟩
      go_wp2_with fail
      go_ret
      exact .inr ⟨⟨_, _, rfl, Why.mal ⟨by first | exact trivial | rfl, H.out⟩⟩, h.ue.alloc _, PE.alloc _ _ _ h.base⟩
/-- fewer bytes than there must be -/
def Short (A : Adr) (most : Nat) (U : US) : Prop := A.al = true ∧ U.out.length < most
end Go.Proofs.YtephkcdbnogdhaaGreatDoor.Pr
/- The walk of putByte, wherever its bytes go. -/
set_option linter.unusedVariables false
namespace Go.Proofs.YtephkcdbnogdhaaGreatDoor.Pr
open Go.RowKit Rf
open RfW (byteCells byteCells_snoc)
/-- what putByte does, wherever its bytes go -/
def PutOk (S : Sink) (base : Nat) : Prop := ∀ (A : Adr) (s : ByteArray) (win most : Nat) (u : US) (x : UInt8) (w : World), A.base = base → UP S w A s win most u → u.out.length < most → most ≤ 16777216 → 1 ≤ win → win ≤ 32768 →
  Calls Tryz.prog 170 #[.pointer (some ⟨A.ub, 0, none⟩), .int .u8 ((x.toNat : Nat) : Int)] w fun e w' =>
    (e = .returned .nilIface ∧ UP S w' A s win most ⟨u.st, u.out ++ [x]⟩ ∧ PE A.base w w') ∨
    ((∃ T a, e = .returned (.iface T (.pointer (some a))) ∧ Why A.tb w' T a (S.stop (u.out ++ [x]))) ∧ UE w' A s ∧ PE A.base w w')
/-- a function's value that takes bytes: the function, what it is called with -/
structure Inner where
  fv : Value
  fn : FuncId
  args : Value → Array Value
  K : World → List UInt8 → (Nat → Prop) → Prop
  stop : List UInt8 → Prop
structure Inner.Ok (I : Inner) (base : Nat) : Prop where
  lt : ∀ {w out F}, I.K w out F → ∀ k, F k → k < w.heap.size
  stable : ∀ {w w' out F}, I.K w out F → (∀ k, F k ∨ k < base → w'.heap[k]? = w.heap[k]?) → w.heap.size ≤ w'.heap.size → I.K w' out F
  busy : ∀ {w out F}, I.K w out F → ∀ (k : Nat) (cur : Array Value) (T : TypeId) (f : Nat × Nat), F k → w.heap[k]? = some (Obj.cells cur T f) → busyT T = true
  body : ∀ args w, (callFunc I.fn args).run Tryz.prog w = .ok (.enter I.fn args) w
  call : ∀ (w : World) (out : List UInt8) (F : Nat → Prop) (x : UInt8), I.K w out F → out.length < 16777216 → (∀ k, F k → base ≤ k) → base ≤ w.heap.size →
    Calls Tryz.prog I.fn (I.args (.int .u8 ((x.toNat : Nat) : Int))) w fun e w' =>
      (e = .returned .nilIface ∧ ∃ F', I.K w' (out ++ [x]) F' ∧ Fr F w w' ∧ ∀ k, F' k → F k ∨ w.heap.size ≤ k) ∨
      (∃ T a, e = .returned (.iface T (.pointer (some a))) ∧ IsMal w' T a ∧ I.stop (out ++ [x]) ∧ Fr F w w')
def sinkI (I : Inner) : Sink := ⟨I.fv, I.K, I.stop⟩
theorem sinkI_ok {I : Inner} {base : Nat} (h : I.Ok base) : (sinkI I).Ok base := ⟨h.lt, h.stable⟩
/-- blocks of F and of the ring's row, as types tell -/
theorem Fr.pe {w w' : World} {base : Nat} {P : Nat → Prop} (h : Fr P w w') (hb : base ≤ w.heap.size) (h1 : ∀ k, P k → base ≤ k) (h2 : ∀ k cur T f, P k → w.heap[k]? = some (Obj.cells cur T f) → busyT T = true) : PE base w w' :=
  ⟨h.os, h.tape, h.output, h.size, fun k hk => h.block k (by omega) (fun hp => by have := h1 k hp; omega), fun k cur T f e hT => h.block k (lt_of_some e) (fun hp => by rw [h2 k cur T f hp e] at hT; cases hT)⟩
theorem row_busy {w : World} {base : Nat} {v : Value} {n : Nat} {xs : List Value} (h : w.ownsRow base 5 1 v n xs) {k : Nat} {cur : Array Value} {T : TypeId} {f : Nat × Nat} (hk : v.ownBlock = some k) (e : w.heap[k]? = some (Obj.cells cur T f)) : busyT T = true := by
  by_cases hT : T = 5
  · subst hT; decide
  · exact absurd hk (row_ne h e hT)
/-- the unpacker where the window has a byte that the sink hasn't -/
def Mid (S : Sink) (w : World) (A : Adr) (s : ByteArray) (win most : Nat) (u : US) (x : UInt8) : Prop := ∃ vr F fx,
  u.st.bad = false ∧ Rd w A.tb A.rb s u.st.pos ∧ u.out.length + 1 ≤ most ∧ RingAt w A.gb A.base vr win (u.out ++ [x]) ∧
  w.heap[A.ub]? = some (.cells #[.pointer (some ⟨A.rb, 0, none⟩), .pointer (some ⟨A.gb, 0, none⟩), .int .i64 ((most - (u.out.length + 1) : Nat) : Int), .bool A.al, S.fv, .pointer fx] 185 (0, 0)) ∧
  (fx = none ∨ ∃ kf, fx = some ⟨kf, 0, none⟩ ∧ TabsIs w kf fixList (List.replicate 32 5)) ∧ S.K w u.out F ∧
  (∀ k, F k → A.base ≤ k ∧ ¬ A.tb.F k ∧ k ≠ A.rb ∧ k ≠ A.gb ∧ k ≠ A.ub ∧ vr.ownBlock ≠ some k) ∧ A.tb.Ok ∧ OrderIs w ∧
  7 ≤ A.base ∧ S.Ok A.base ∧ A.base ≤ A.rb ∧ A.base ≤ A.gb ∧ A.base ≤ A.ub
/-- 'left--' and the window's Add lead there -/
theorem Mid.mk {S : Sink} {w w2 : World} {A : Adr} {s : ByteArray} {win most : Nat} {u : US} {x : UInt8} {vr vr' : Value} {F : Nat → Prop} {fx : Option Addr} {l : Nat}
    (h1 : u.st.bad = false) (h2 : Rd w A.tb A.rb s u.st.pos) (h4 : RingAt w A.gb A.base vr win u.out)
    (h5 : w.heap[A.ub]? = some (.cells #[.pointer (some ⟨A.rb, 0, none⟩), .pointer (some ⟨A.gb, 0, none⟩), .int .i64 (l : Int), .bool A.al, S.fv, .pointer fx] 185 (0, 0)))
    (h6 : fx = none ∨ ∃ kf, fx = some ⟨kf, 0, none⟩ ∧ TabsIs w kf fixList (List.replicate 32 5)) (h7 : S.K w u.out F)
    (h8 : ∀ k, F k → A.base ≤ k ∧ ¬ A.tb.F k ∧ k ≠ A.rb ∧ k ≠ A.gb ∧ k ≠ A.ub ∧ vr.ownBlock ≠ some k) (h9 : A.tb.Ok) (h10 : OrderIs w) (h11 : 7 ≤ A.base) (h12 : S.Ok A.base) (h13 : A.base ≤ A.rb) (h14 : A.base ≤ A.gb) (h15 : A.base ≤ A.ub)
    (hl : l = most - u.out.length) (hlt : u.out.length < most)
    (r1 : RingAt w2 A.gb A.base vr' win (u.out ++ [x])) (r2 : Fr (fun k => k = A.gb ∨ vr.ownBlock = some k) (w.setCell ⟨A.ub, 2, none⟩ (.int .i64 ((l : Int) - 1))) w2)
    (r3 : ∀ k, vr'.ownBlock = some k → vr.ownBlock = some k ∨ (w.setCell ⟨A.ub, 2, none⟩ (.int .i64 ((l : Int) - 1))).heap.size ≤ k) : Mid S w2 A s win most u x ∧ PE A.base w w2 := by
  have hb : A.base ≤ w.heap.size := by have := h2.lts; omega
  have hke : A.tb.KE w := by obtain ⟨_, _, _, _, _, _, h4, h5, _⟩ := h2; exact h5.ke h4
  have g5 : (w.setCell ⟨A.ub, 2, none⟩ (.int .i64 ((l : Int) - 1))).heap[A.ub]? = some (.cells #[.pointer (some ⟨A.rb, 0, none⟩), .pointer (some ⟨A.gb, 0, none⟩), .int .i64 ((l : Int) - 1), .bool A.al, S.fv, .pointer fx] 185 (0, 0)) := (set_of h5 2 _).trans (by simp)
  have hug : A.gb ≠ A.ub := ne_of_type h4.1 h5 (by decide)
  have hrow : vr.ownBlock ≠ some A.ub := row_ne h4.2.1 h5 (by decide)
  have gP : PE A.base w (w.setCell ⟨A.ub, 2, none⟩ (.int .i64 ((l : Int) - 1))) := ⟨rfl, rfl, rfl, by simp, fun k hk => set_other 2 _ (by omega), fun k cur T f e hT => set_other 2 _ (fun e2 => by rw [e2, h5] at e; simp at e; rw [← e.2.1] at hT; revert hT; decide)⟩
  have gO : ∀ k, k ≠ A.ub → (w.setCell ⟨A.ub, 2, none⟩ (.int .i64 ((l : Int) - 1))).heap[k]? = w.heap[k]? := fun k hk => set_other 2 _ hk
  have gZ : (w.setCell ⟨A.ub, 2, none⟩ (.int .i64 ((l : Int) - 1))).heap.size = w.heap.size := by simp
  generalize (w.setCell ⟨A.ub, 2, none⟩ (.int .i64 ((l : Int) - 1))) = w1 at *
  have k5 : w2.heap[A.ub]? = _ := (r2.block A.ub (lt_of_some g5) (fun e => e.elim (fun e => hug e.symm) (fun e => hrow e))).trans g5
  have kP : PE A.base w1 w2 := r2.pe (by omega) (fun k hk => by
    rcases hk with rfl | hk
    · exact h14
    · exact (h4.2.1.lt k hk).1) (fun k cur T f hk e => by
    have hku : k ≠ A.ub := by
      rcases hk with rfl | hk
      · exact hug
      · exact fun e => hrow (e ▸ hk)
    rw [gO k hku] at e
    rcases hk with rfl | hk
    · rw [h4.1] at e; simp at e; rw [← e.2.1]; decide
    · exact row_busy h4.2.1 hk e)
  have hPE : PE A.base w w2 := gP.trans kP
  have hkeep : ∀ k, k < w.heap.size → k ≠ A.ub → k ≠ A.gb → vr.ownBlock ≠ some k → w2.heap[k]? = w.heap[k]? := fun k hk a1 a2 a3 =>
    (r2.block k (by omega) (fun e => e.elim a2 a3)).trans (gO k a1)
  have hrt := h2.types h4.1 (by decide) (by decide)
  have hut := h2.types h5 (by decide) (by decide)
  have hl2 := h2.lts
  have hrr : vr.ownBlock ≠ some A.rb := by
    obtain ⟨c, hc, t, _, _, _, _, _, q5⟩ := h2
    exact row_ne h4.2.1 q5 (by decide)
  refine ⟨⟨vr', F, fx, h1, h2.over (fun k hk => ?_) ?_, hlt, r1, ?_, h6.imp id (fun ⟨kf, e, ht⟩ => ⟨kf, e, ht.pe hPE⟩), h12.stable h7 (fun k hk => ?_) hPE.size, ?_, h9, h10.over (hPE.low _ (by omega)), h11, h12, h13, h14, h15⟩, hPE⟩
  · rcases hk with hk | hk
    · exact hkeep k (hl2.1 k (.inl hk)) (fun e => hut.1 (e ▸ hk)) (fun e => hrt.1 (e ▸ hk)) (fun e => row_src h4.2.1 h9 hke e hk)
    · exact hPE.low k hk
  · exact hkeep A.rb hl2.2.1 (Ne.symm hut.2) (Ne.symm hrt.2) hrr
  · rw [k5]
    have : (l : Int) - 1 = ((most - (u.out.length + 1) : Nat) : Int) := by omega
    rw [this]
  · rcases hk with hk | hk
    · have := h8 k hk
      exact hkeep k (h12.lt h7 k hk) this.2.2.2.2.1 this.2.2.2.1 this.2.2.2.2.2
    · exact hPE.low k hk
  · intro k hk
    have hq := h8 k hk
    refine ⟨hq.1, hq.2.1, hq.2.2.1, hq.2.2.2.1, hq.2.2.2.2.1, fun e2 => ?_⟩
    have h9 := h12.lt h7 k hk
    rcases r3 k e2 with e3 | e3
    · exact hq.2.2.2.2.2 e3
    · omega
/-- the sink takes the byte -/
theorem Mid.fin {S : Sink} {w w' : World} {A : Adr} {s : ByteArray} {win most : Nat} {u : US} {x : UInt8} {vr : Value} {F F' : Nat → Prop} {fx : Option Addr}
    (h1 : u.st.bad = false) (h2 : Rd w A.tb A.rb s u.st.pos) (h3 : u.out.length + 1 ≤ most) (h4 : RingAt w A.gb A.base vr win (u.out ++ [x]))
    (h5 : w.heap[A.ub]? = some (.cells #[.pointer (some ⟨A.rb, 0, none⟩), .pointer (some ⟨A.gb, 0, none⟩), .int .i64 ((most - (u.out.length + 1) : Nat) : Int), .bool A.al, S.fv, .pointer fx] 185 (0, 0)))
    (h6 : fx = none ∨ ∃ kf, fx = some ⟨kf, 0, none⟩ ∧ TabsIs w kf fixList (List.replicate 32 5)) (h7 : S.K w u.out F)
    (h8 : ∀ k, F k → A.base ≤ k ∧ ¬ A.tb.F k ∧ k ≠ A.rb ∧ k ≠ A.gb ∧ k ≠ A.ub ∧ vr.ownBlock ≠ some k) (h9 : A.tb.Ok) (h10 : OrderIs w) (h11 : 7 ≤ A.base) (h12 : S.Ok A.base) (h13 : A.base ≤ A.rb) (h14 : A.base ≤ A.gb) (h15 : A.base ≤ A.ub)
    (hbu : ∀ (k : Nat) (cur : Array Value) (T : TypeId) (f : Nat × Nat), F k → w.heap[k]? = some (Obj.cells cur T f) → busyT T = true) (b2 : Fr F w w') :
    UE w' A s ∧ PE A.base w w' ∧ (S.K w' (u.out ++ [x]) F' → (∀ k, F' k → F k ∨ w.heap.size ≤ k) → UP S w' A s win most ⟨u.st, u.out ++ [x]⟩) := by
  have hl2 := h2.lts
  have hb : A.base ≤ w.heap.size := by omega
  have hPE : PE A.base w w' := b2.pe hb (fun k hk => (h8 k hk).1) hbu
  have hr' : Rd w' A.tb A.rb s u.st.pos := h2.over (fun k hk => by
    rcases hk with hk | hk
    · exact b2.block k (hl2.1 k (.inl hk)) (fun e => (h8 k e).2.1 hk)
    · exact hPE.low k hk) (b2.block _ hl2.2.1 (fun e => (h8 _ e).2.2.1 rfl))
  have k5 : w'.heap[A.ub]? = _ := (b2.block A.ub (lt_of_some h5) (fun e => (h8 _ e).2.2.2.2.1 rfl)).trans h5
  refine ⟨⟨hr'.rdE, _, _, _, _, _, k5⟩, hPE, fun hK hF' => ?_⟩
  refine ⟨vr, F', fx, h1, hr', by simpa using h3, ⟨(b2.block A.gb (lt_of_some h4.1) (fun e => (h8 _ e).2.2.2.1 rfl)).trans h4.1, ownsRow_over h4.2.1 (fun k hk => b2.block k (h4.2.1.lt k hk).2 (fun e => (h8 k e).2.2.2.2.2 hk)), Nat.le_trans h4.2.2 b2.size⟩, ?_, h6.imp id (fun ⟨kf, e, ht⟩ => ⟨kf, e, ht.pe hPE⟩), hK, ?_, h9, h10.over (hPE.low _ (by omega)), h11, h12, h13, h14, h15⟩
  · rw [k5]; simp
  · intro k hk
    rcases hF' k hk with e | e
    · exact h8 k e
    · have hn := h2.new e
      have := lt_of_some h4.1
      have := lt_of_some h5
      exact ⟨hn.1, hn.2.1, hn.2.2, by omega, by omega, fun e2 => by have := (h4.2.1.lt k e2).2; omega⟩
/-- bytes go to a method of what lies in block ob -/
def mI (ob : Nat) (fn : FuncId) (K : World → List UInt8 → (Nat → Prop) → Prop) (stop : List UInt8 → Prop) : Inner :=
  ⟨.func (.func fn) #[.pointer (some ⟨ob, 0, none⟩)] #[], fn, fun x => #[.pointer (some ⟨ob, 0, none⟩), x], K, stop⟩
set_option maxRecDepth 10000 in
set_option maxHeartbeats 4000000 in
theorem putM (ob : Nat) (fn : FuncId) (K : World → List UInt8 → (Nat → Prop) → Prop) (stop : List UInt8 → Prop) (base : Nat) (hI : (mI ob fn K stop).Ok base) : PutOk (sinkI (mI ob fn K stop)) base := by
  intro A s win most u x w hA h hlt hm hw1 hw2
  subst hA
  obtain ⟨c0, c1, c2, c3⟩ := h.cells
  obtain ⟨vr, F, fx, h1, h2, h3, h4, h5, h6, h7, h8, h9, h10, h11, h12, h13, h14, h15⟩ := h
  have f2 := (cell_of h5 2).2
  obtain ⟨l, hl⟩ : ∃ l, l = most - u.out.length := ⟨_, rfl⟩
  rw [← hl] at c2 h5
  have hl1 : 1 ≤ l := by omega
  have hl2 : l ≤ 16777216 := by omega
  have HL : Hid (l = most - u.out.length) := hl
  clear hl c0 c3
  have hug : A.gb ≠ A.ub := ne_of_type h4.1 h5 (by decide)
  have hrow : vr.ownBlock ≠ some A.ub := row_ne h4.2.1 h5 (by decide)
  have g4 : RingAt (w.setCell ⟨A.ub, 2, none⟩ (.int .i64 ((l : Int) - 1))) A.gb A.base vr win u.out := ⟨(set_other 2 _ hug).trans h4.1, ownsRow_over h4.2.1 (fun k hk => set_other 2 _ (fun e => hrow (e ▸ hk))), by simpa using h4.2.2⟩
  go_enter Tryz.func170, Tryz.ntmps170
  go_wp2_with fail
  refine (add_any A.gb A.base vr win u.out x _ g4 hw1 hw2).mono ?_
  rintro e w2 ⟨rfl, vr', r1, r2, r3⟩
  obtain ⟨hM, hP⟩ := Mid.mk h1 h2 h4 h5 h6 h7 h8 h9 h10 h11 h12 h13 h14 h15 HL.out hlt r1 r2 r3
  clear h1 h2 h4 h5 h6 h7 h8 h9 h10 h11 h12 h13 h14 h15 r1 r2 r3 c1 c2 f2 g4 hug hrow
  obtain ⟨vr, F, fx, h1, h2, h3, h4, h5, h6, h7, h8, h9, h10, h11, h12, h13, h14, h15⟩ := hM
  have kc3 : w2.cell? ⟨A.ub, 4, none⟩ = some (.func (.func fn) #[.pointer (some ⟨ob, 0, none⟩)] #[]) := by simpa [sinkI, mI] using (cell_of h5 4).1
  have hC := hI.call w2 u.out F x h7 (by omega) (fun k hk => (h8 k hk).1) (by have := h2.lts; omega)
  have hbd : ∀ args w, (callFunc fn args).run Tryz.prog w = .ok (.enter fn args) w := hI.body
  have hC' : Calls Tryz.prog fn #[.pointer (some ⟨ob, 0, none⟩), .int .u8 ((x.toNat : Nat) : Int)] w2 _ := hC
  clear hC
  go_wp2_with fail
  refine hC'.mono ?_
  rintro e w3 (⟨rfl, F', b1, b2, b3⟩ | ⟨T, a, rfl, b0, b1, b2⟩)
  · obtain ⟨q1, q2, q3⟩ := Mid.fin (F' := F') h1 h2 h3 h4 h5 h6 h7 h8 h9 h10 h11 h12 h13 h14 h15 (hI.busy h7) b2
    go_wp2_with fail
    go_ret
    exact .inl ⟨rfl, q3 b1 b3, hP.trans q2⟩
  · obtain ⟨q1, q2, q3⟩ := Mid.fin (F' := F) h1 h2 h3 h4 h5 h6 h7 h8 h9 h10 h11 h12 h13 h14 h15 (hI.busy h7) b2
    go_wp2_with fail
    go_ret
    exact .inr ⟨⟨T, a, rfl, .inl ⟨b0, b1⟩⟩, q1, hP.trans q2⟩
/-- a Builder in block ob -/
def innB (ob base : Nat) : Inner := mI ob 41 (fun w out F => ∃ v, BldAt w ob base v out ∧ F = fun k => k = ob ∨ v.ownBlock = some k) (fun _ => False)
theorem BldAt.over {w w' : World} {ob base : Nat} {v : Value} {out : List UInt8} (h : BldAt w ob base v out) (e : ∀ k, k = ob ∨ v.ownBlock = some k → w'.heap[k]? = w.heap[k]?) (hs : w.heap.size ≤ w'.heap.size) : BldAt w' ob base v out := by
  obtain ⟨a, h1, h2, h3, h4, h5, h6⟩ := h
  exact ⟨a, (e ob (.inl rfl)).trans h1, h2, ownsRow_over h3 (fun k hk => e k (.inr hk)), h4, Nat.le_trans h5 hs, h6⟩
theorem innB_ok (ob base : Nat) : (innB ob base).Ok base where
  lt := by
    rintro w out F ⟨v, ⟨a, h1, h2, h3, h4⟩, rfl⟩ k hk
    rcases hk with rfl | hk
    · exact lt_of_some h1
    · exact (h3.lt k hk).2
  stable := by
    rintro w w' out F ⟨v, h, rfl⟩ e hs
    exact ⟨v, h.over (fun k hk => e k (.inl hk)) hs, rfl⟩
  busy := by
    rintro w out F ⟨v, ⟨a, h1, h2, h3, h4⟩, rfl⟩ k cur T f hk e
    rcases hk with rfl | hk
    · rw [h1] at e; simp at e; rw [← e.2.1]; decide
    · exact row_busy h3 hk e
  body := fun args w => callBody Tryz.func41 (by kernel_rfl) (by kernel_rfl) args w
  call := by
    rintro w out F x ⟨v, h, rfl⟩ hl _ _
    refine (write_any ob base v out x w h (by omega)).mono ?_
    rintro e w' ⟨rfl, v', b1, b2, b3⟩
    refine .inl ⟨rfl, _, ⟨v', b1, rfl⟩, b2, fun k hk => ?_⟩
    rcases hk with e | hk
    · exact .inl (.inl e)
    · exact (b3 k hk).imp .inr id
/-- a Builder in block ob, as a sink -/
def sinkB (ob base : Nat) : Sink := sinkI (innB ob base)
theorem sinkB_ok (ob base : Nat) : (sinkB ob base).Ok base := sinkI_ok (innB_ok ob base)
theorem putB (ob base : Nat) : PutOk (sinkB ob base) base := putM ob _ _ _ base (innB_ok ob base)
end Go.Proofs.YtephkcdbnogdhaaGreatDoor.Pr
/- The walks of single and reach. -/
set_option linter.unusedVariables false
namespace Go.Proofs.YtephkcdbnogdhaaGreatDoor.Pr
open Go.RowKit Rf
theorem Res.ok {S : Sink} {A : Adr} {s : ByteArray} {win most : Nat} {w w' : World} {U : US} (h : U.st.bad = false) (hu : UP S w' A s win most U) (hp : PE A.base w w') : Res S A s win most w U (.returned .nilIface) w' := .inl ⟨h, rfl, hu, hp⟩
theorem Res.no {S : Sink} {A : Adr} {s : ByteArray} {win most : Nat} {w w' : World} {U : US} {T : TypeId} {a : Addr} (h : Why A.tb w' T a (Stop S U)) (hu : UE w' A s) (hp : PE A.base w w') : Res S A s win most w U (.returned (.iface T (.pointer (some a)))) w' := .inr ⟨⟨T, a, rfl, h⟩, hu, hp⟩
set_option maxRecDepth 10000 in
set_option maxHeartbeats 2000000 in
theorem single_any (S : Sink) (A : Adr) (s : ByteArray) (win most : Nat) (u : US) (x : UInt8) (w : World) (hP : PutOk S A.base) (h : UP S w A s win most u) (hm : most ≤ 16777216) (hw1 : 1 ≤ win) (hw2 : win ≤ 32768) :
    Calls Tryz.prog 199 #[.pointer (some ⟨A.ub, 0, none⟩), .int .u8 ((x.toNat : Nat) : Int)] w fun e w' => Res S A s win most w (putT most x u) e w' := by
  have h1 : u.st.bad = false := h.facts.1
  go_enter Tryz.func199, Tryz.ntmps199
  go_wp2_with fail
  refine (room_any S A s win most 1 u _ h hm (by omega)).mono ?_
  rintro e w1 (⟨k1, rfl, rfl⟩ | ⟨⟨T, a, rfl, k1⟩, k2, k3⟩)
  · go_wp2_with fail
    refine (hP A s win most u x _ rfl h (by omega) hm hw1 hw2).mono ?_
    rintro e w2 (⟨rfl, g1, g2⟩ | ⟨⟨T, a, rfl, g0⟩, g1, g2⟩)
    · go_wp2_with fail
      go_ret
      refine .inl ⟨?_, rfl, ?_, g2⟩
      · rw [putT_go most x u (by omega) h1]; exact h1
      · rw [putT_go most x u (by omega) h1]; exact g1
    · go_wp2_with fail
      go_ret
      refine .inr ⟨⟨T, a, rfl, g0.imp (fun hst => .inr ⟨_, hst, ?_⟩)⟩, g1, g2⟩
      rw [putT_go most x u (by omega) h1]
      exact List.prefix_refl _
  · go_wp2_with fail
    go_ret
    exact .inr ⟨⟨T, a, rfl, k1.imp (fun k1 => .inl (by rw [putT_full most x u (by omega)]))⟩, k2, k3⟩
theorem single_int (S : Sink) (A : Adr) (s : ByteArray) (win most : Nat) (u : US) (x : UInt8) (a : Int) (ha : a = ((x.toNat : Nat) : Int)) (w : World) (hP : PutOk S A.base) (h : UP S w A s win most u) (hm : most ≤ 16777216) (hw1 : 1 ≤ win) (hw2 : win ≤ 32768) :
    Calls Tryz.prog 199 #[.pointer (some ⟨A.ub, 0, none⟩), .int .u8 a] w fun e w' => Res S A s win most w (putT most x u) e w' := by
  subst ha; exact single_any S A s win most u x w hP h hm hw1 hw2
/-- bytes that come again, once it is known how many and how far back -/
def backT (win most back count : Nat) (u : US) : US := if win < back ∨ u.out.length < back then ⟨⟨u.st.pos, true⟩, u.out⟩ else cpL most back count u
theorem backT_no (win most back count : Nat) (u : US) (h : win < back ∨ u.out.length < back) : backT win most back count u = ⟨⟨u.st.pos, true⟩, u.out⟩ := if_pos h
theorem backT_go (win most back count : Nat) (u : US) (h : ¬ (win < back ∨ u.out.length < back)) : backT win most back count u = cpL most back count u := if_neg h
theorem UP.ring {S : Sink} {w : World} {A : Adr} {s : ByteArray} {win most : Nat} {u : US} (h : UP S w A s win most u) : ∃ vr, RingAt w A.gb A.base vr win u.out := by
  obtain ⟨vr, F, fx, h1, h2, h3, h4, _⟩ := h; exact ⟨vr, h4⟩
set_option maxRecDepth 10000 in
set_option maxHeartbeats 2000000 in
theorem reach_yes (S : Sink) (A : Adr) (s : ByteArray) (win most n : Nat) (u : US) (w : World) (h : UP S w A s win most u) (hw1 : 1 ≤ win) (hw2 : win ≤ 32768) (hn1 : 1 ≤ n) (hno : n ≤ win ∧ n ≤ u.out.length) :
    Calls Tryz.prog 226 #[.pointer (some ⟨A.ub, 0, none⟩), .int .i64 (n : Int)] w fun e w' => e = .returned .nilIface ∧ w' = w := by
  obtain ⟨c0, c1, c2, c3⟩ := h.cells
  obtain ⟨vr, hr⟩ := h.ring
  have H : Hid _ := hno
  clear hno
  go_enter Tryz.func226, Tryz.ntmps226
  go_wp2_with fail
  refine (back_some A.gb A.base vr win n u.out _ hr hw1 hw2 hn1 (by have := H.out; omega)).mono ?_
  rintro e w1 ⟨rfl, rfl⟩
  go_wp2_with fail
  go_ret
  exact ⟨rfl, rfl⟩
set_option maxRecDepth 10000 in
set_option maxHeartbeats 2000000 in
theorem reach_no (S : Sink) (A : Adr) (s : ByteArray) (win most n : Nat) (u : US) (w : World) (h : UP S w A s win most u) (hw1 : 1 ≤ win) (hw2 : win ≤ 32768) (hn1 : 1 ≤ n) (hn : n ≤ 1000000) (hno : ¬ (n ≤ win ∧ n ≤ u.out.length)) :
    Calls Tryz.prog 226 #[.pointer (some ⟨A.ub, 0, none⟩), .int .i64 (n : Int)] w fun e w' => ∃ T a, e = .returned (.iface T (.pointer (some a))) ∧ IsMal w' T a ∧ UE w' A s ∧ PE A.base w w' := by
  obtain ⟨c0, c1, c2, c3⟩ := h.cells
  obtain ⟨vr, hr⟩ := h.ring
  have H : Hid _ := hno
  clear hno
  go_enter Tryz.func226, Tryz.ntmps226
  go_wp2_with fail
  have H2 : win < n ∨ u.out.length < n := by
    rcases Nat.lt_or_ge win n with h | h
    · exact .inl h
    · rcases Nat.lt_or_ge u.out.length n with h' | h'
      · exact .inr h'
      · exact absurd ⟨h, h'⟩ H.out
  refine (back_none A.gb A.base vr win n u.out _ hr hw1 hw2 hn1 hn (by omega)).mono ?_
  rintro e w1 ⟨rfl, rfl⟩
  go_wp2_with fail
  refine (mal_any _ _).mono ?_
  rintro e w3 ⟨rfl, rfl⟩
  go_wp2_with fail
  go_ret
  exact ⟨_, _, rfl, IsMal.mk _ _, h.ue.alloc _, PE.alloc _ _ _ h.base⟩
/-- what the unpacker is asked: whether so much fits -/
structure FitsOk (S : Sink) (A : Adr) (s : ByteArray) (win most : Nat) (fn : FuncId) (P : Nat → List UInt8 → Prop) : Prop where
  body : ∀ args w, (callFunc fn args).run Tryz.prog w = .ok (.enter fn args) w
  yes : ∀ (n : Nat) (u : US) (w : World), UP S w A s win most u → 1 ≤ n → n ≤ 1000000 → P n u.out → Calls Tryz.prog fn #[.pointer (some ⟨A.ub, 0, none⟩), .int .i64 (n : Int)] w fun e w' => e = .returned .nilIface ∧ w' = w
  no : ∀ (n : Nat) (u : US) (w : World), UP S w A s win most u → 1 ≤ n → n ≤ 1000000 → ¬ P n u.out → Calls Tryz.prog fn #[.pointer (some ⟨A.ub, 0, none⟩), .int .i64 (n : Int)] w fun e w' => ∃ T a, e = .returned (.iface T (.pointer (some a))) ∧ IsMal w' T a ∧ UE w' A s ∧ PE A.base w w'
  mono : ∀ n m out, n ≤ m → P m out → P n out
theorem room_fits (S : Sink) (A : Adr) (s : ByteArray) (win most : Nat) (hm : most ≤ 16777216) : FitsOk S A s win most 194 (fun n out => out.length + n ≤ most) where
  body := fun args w => callBody Tryz.func194 (by kernel_rfl) (by kernel_rfl) args w
  yes := fun n u w h _ hn hp => room_yes S A s win most n u w h hm hn hp
  no := fun n u w h _ hn hp => room_no S A s win most n u w h hm hn hp
  mono := fun n m out h1 h2 => by omega
theorem reach_fits (S : Sink) (A : Adr) (s : ByteArray) (win most : Nat) (hw1 : 1 ≤ win) (hw2 : win ≤ 32768) : FitsOk S A s win most 226 (fun n out => n ≤ win ∧ n ≤ out.length) where
  body := fun args w => callBody Tryz.func226 (by kernel_rfl) (by kernel_rfl) args w
  yes := fun n u w h h1 _ hp => reach_yes S A s win most n u w h hw1 hw2 h1 hp
  no := fun n u w h h1 hn hp => reach_no S A s win most n u w h hw1 hw2 h1 hn hp
  mono := fun n m out h1 h2 => by omega
end Go.Proofs.YtephkcdbnogdhaaGreatDoor.Pr
/- The walk of amount. -/
set_option linter.unusedVariables false
namespace Go.Proofs.YtephkcdbnogdhaaGreatDoor.Pr
open Go.RowKit Rf
/-- a meaning that lies in block b -/
def MeanAt (w : World) (b : Nat) (m : Nat × Nat × Nat) : Prop := w.heap[b]? = some (.cells #[.int .u8 (m.1 : Int), .int .i64 (m.2.1 : Int), .int .u64 (m.2.2 : Int)] 314 (0, 0))
theorem MeanAt.c {w : World} {b : Nat} {m : Nat × Nat × Nat} (h : MeanAt w b m) : w.cell? ⟨b, 0, none⟩ = some (.int .u8 (m.1 : Int)) ∧ w.cell? ⟨b, 1, none⟩ = some (.int .i64 (m.2.1 : Int)) ∧ w.cell? ⟨b, 2, none⟩ = some (.int .u64 (m.2.2 : Int)) :=
  ⟨by simpa using (cell_of h 0).1, by simpa using (cell_of h 1).1, by simpa using (cell_of h 2).1⟩
theorem MeanAt.rf {w w' : World} {b : Nat} {tb : Src} {rb : Nat} {m : Nat × Nat × Nat} {s : ByteArray} {pos : Nat} (h : MeanAt w b m) (hr : Rd w tb rb s pos) (hf : RF tb rb w w') : MeanAt w' b m := by
  have hn := hr.types h (by decide) (by decide)
  exact (hf.block b (lt_of_some h) hn.1 hn.2).trans h
theorem MeanAt.pe {w w' : World} {b base : Nat} {m : Nat × Nat × Nat} (h : MeanAt w b m) (hp : PE base w w') : MeanAt w' b m := (hp.other b _ _ _ h (by decide)).trans h
theorem RF.undrew {tb : Src} {rb : Nat} {w w' : World} (h : RF tb rb w.drew w') : RF tb rb w w' := ⟨h.os, h.tape, h.output, h.size, h.block⟩
theorem NumR.undrew {tb : Src} {rb : Nat} {s : ByteArray} {pos n : Nat} {w : World} {x : Int} {v : Value} {w' : World} (h : NumR tb rb s pos n w.drew x v w') : NumR tb rb s pos n w x v w' :=
  Or.imp (fun ⟨a, b, c, d, e⟩ => ⟨a, b, c, d, e.undrew⟩) (fun ⟨a, b, c, d⟩ => ⟨a, b, c, d.undrew⟩) h
theorem wrap_add (a b : Nat) (h : a + b < 9223372036854775808) : IntKind.i64.wrap ((a : Int) + (b : Int)) = ((a + b : Nat) : Int) := by
  rw [IntKind.wrap_i64]; omega
set_option maxRecDepth 10000 in
set_option maxHeartbeats 4000000 in
theorem amount_any (S : Sink) (A : Adr) (s : ByteArray) (win most : Nat) (u : US) (m : Nat × Nat × Nat) (fn : FuncId) (P : Nat → List UInt8 → Prop) (w : World) (h : UP S w A s win most u) (hF : FitsOk S A s win most fn P) (hs : s.size ≤ 140737488354000) (hx : m.2.2 ≤ 16) (hl : m.2.1 ≤ 900000) (hl1 : 1 ≤ m.2.1) :
    Calls Tryz.prog 225 #[.pointer (some ⟨A.ub, 0, none⟩), .agg #[.int .u8 (m.1 : Int), .int .i64 (m.2.1 : Int), .int .u64 (m.2.2 : Int)], .func (.func fn) #[.pointer (some ⟨A.ub, 0, none⟩)] #[]] w fun e w' =>
      ((numT s m.2.2 u.st).2.bad = false ∧ u.st.pos + m.2.2 ≤ 8 * s.size ∧ P (m.2.1 + bitsV s u.st.pos m.2.2) u.out ∧ e = .returned (.tuple #[.int .i64 ((m.2.1 + bitsV s u.st.pos m.2.2 : Nat) : Int), .nilIface]) ∧ UP S w' A s win most ⟨⟨u.st.pos + m.2.2, false⟩, u.out⟩ ∧ PE A.base w w' ∧ RF A.tb A.rb w w') ∨
      ((∃ n T a, e = .returned (.tuple #[.int .i64 n, .iface T (.pointer (some a))]) ∧ Why A.tb w' T a ((numT s m.2.2 u.st).2.bad = true ∨ ¬ P (m.2.1 + bitsV s u.st.pos m.2.2) u.out)) ∧ UE w' A s ∧ PE A.base w w') := by
  obtain ⟨k, l, x⟩ := m
  dsimp only at hx hl hl1 ⊢
  have hbad := h.facts.1
  obtain ⟨⟨pos, bad⟩, out⟩ := u
  dsimp only at hbad ⊢
  subst hbad
  have hA := h.alloc (.cells #[.int .u8 (k : Int), .int .i64 (l : Int), .int .u64 (x : Int)] 314)
  have hRF0 : RF A.tb A.rb w (w.alloc (.cells #[.int .u8 (k : Int), .int .i64 (l : Int), .int .u64 (x : Int)] 314)) := (RF.refl _ _ w).alloc _
  have hM : MeanAt (w.alloc (.cells #[.int .u8 (k : Int), .int .i64 (l : Int), .int .u64 (x : Int)] 314)) w.heap.size (k, l, x) := alloc_new w _ _ rfl
  obtain ⟨hU0, hP0⟩ := hA
  have hbd : ∀ args w, (callFunc fn args).run Tryz.prog w = .ok (.enter fn args) w := hF.body
  go_enter Tryz.func225, Tryz.ntmps225
  go_wp2_with fail
  generalize (w.alloc (.cells #[.int .u8 (k : Int), .int .i64 (l : Int), .int .u64 (x : Int)] 314)) = w0 at *
  obtain ⟨c0, c1, c2, c3⟩ := hU0.cells
  obtain ⟨m0, m1, m2⟩ := hM.c
  obtain ⟨f1, f2, f3⟩ := hU0.facts
  dsimp only at f2
  have hpe := f2.end_le
  have hb16 : bitsV s pos x < 65536 := Nat.lt_of_lt_of_le (bitsV_lt s pos x) (show 2 ^ x ≤ 2 ^ 16 from Nat.pow_le_pow_right (by omega) hx)
  by_cases hp1 : P l out
  rotate_left
  · have hC := hF.no l ⟨⟨pos, false⟩, out⟩ w0 hU0 hl1 (by omega) hp1
    have HN : Hid (¬ P (l + bitsV s pos x) out) := (fun hp => hp1 (hF.mono l _ out (by omega) hp) : ¬ _)
    clear hp1
    go_wp2_with fail
    refine hC.mono ?_
    rintro e w1 ⟨T, a, rfl, q1, q2, q3⟩
    clear hC c0 c1 c2 c3 m0 m1 m2
    go_wp2_with fail
    go_ret2
    exact .inr ⟨⟨_, T, a, rfl, .inl ⟨q1, .inr HN.out⟩⟩, q2, hP0.trans q3⟩
  have hC := hF.yes l ⟨⟨pos, false⟩, out⟩ w0 hU0 hl1 (by omega) hp1
  clear hp1
  go_wp2_with fail
  refine hC.mono ?_
  rintro e w1 ⟨rfl, hw1⟩
  have hw1 := hw1.symm
  subst hw1
  clear hC
  go_upto_region 4 with fail
  go_cut [9, 10] (fun v6 v7 wx => ∃ (i : Int) (v : Value), v6 = .int .i64 i ∧ v7 = v ∧ NumR A.tb A.rb s pos x w0 i v wx)
  case first =>
    go_region_with ((go_at_call 133; refine (number_one A.tb A.rb s pos x _ (by exact f2.drew) hs hx).mono ?_; rintro e w3 ⟨i, v, rfl, g1⟩))
    all_goals
      go_wp2_with fail
      go_meet
      case rel => exact ⟨i, v, rfl, rfl, g1.undrew⟩
  case rest =>
    obtain ⟨i, v, rfl, rfl, hN⟩ := hcut
    rcases hN with ⟨hfit, rfl, rfl, g1, g2⟩ | ⟨rfl, ⟨T, a, rfl, g0⟩, g1, g2⟩
    · have HF : Hid (pos + x ≤ 8 * s.size) := hfit
      clear hfit
      obtain ⟨m0', m1', m2'⟩ := (hM.rf f2 g2).c
      have hfin := hU0.rd (pos + x) g1 g2
      clear c0 c1 c2 c3 m0 m1 m2
      have hUd := (hfin.1.rd (pos + x) g1.drew ((RF.refl _ _ wc).drew)).1
      dsimp only at hUd
      have HNT : Hid ((numT s x ⟨pos, false⟩).2.bad = false) := (by rw [numT_ok s x pos HF.out] : _ = _)
      by_cases hp2 : P (l + bitsV s pos x) out
      · have hC := hF.yes (l + bitsV s pos x) _ _ hUd (by omega) (by omega) hp2
        have HP : Hid _ := hp2
        clear hp2
        generalize hbv : bitsV s pos x = bv at *
        have HBV : Hid _ := hbv
        clear hbv
        rw [← wrap_add l bv (by omega)] at hC
        go_wp2_with fail
        go_region_with ((refine hC.mono ?_; rintro e w3 ⟨rfl, rfl⟩))
        all_goals
          go_wp2_with fail
          go_ret2
          exact .inl ⟨HNT.out, HF.out, by rw [HBV.out]; exact HP.out, ret_iv (by rw [HBV.out, ← wrap_add l bv (by omega)]), hUd, hP0.trans (hfin.2.trans (PE.drewN _ _ 1)), hRF0.trans g2.drew⟩
      · have hC := hF.no (l + bitsV s pos x) _ _ hUd (by omega) (by omega) hp2
        have HP : Hid _ := hp2
        clear hp2
        generalize hbv : bitsV s pos x = bv at *
        have HBV : Hid _ := hbv
        clear hbv
        rw [← wrap_add l bv (by omega)] at hC
        go_wp2_with fail
        have hMd : MeanAt wc.drew w.heap.size (k, l, x) := hM.rf f2 g2.drew
        go_region_with ((refine hC.mono ?_; rintro e w3 ⟨T, a, rfl, q1, q2, q3⟩; have m1x := (hMd.pe q3).c.2.1))
        all_goals
          go_wp2_with fail
          go_ret2
          exact .inr ⟨⟨_, T, a, rfl,   .inl ⟨q1, .inr (by rw [HBV.out]; exact HP.out)⟩⟩, q2, hP0.trans (hfin.2.trans ((PE.drewN _ _ 1).trans q3))⟩
    · obtain ⟨m0', m1', m2'⟩ := (hM.rf f2 g2).c
      have hfin := hU0.rdE g1 g2
      have HW : Why A.tb wc T a ((numT s x ⟨pos, false⟩).2.bad = true ∨ ¬ P (l + bitsV s pos x) out) := g0.imp .inl
      clear c0 c1 c2 c3 m0 m1 m2 g0
      go_wp2_with fail
      go_ret2
      exact .inr ⟨⟨_, T, a, rfl, HW⟩, hfin.1, hP0.trans hfin.2⟩
end Go.Proofs.YtephkcdbnogdhaaGreatDoor.Pr
/- The walks of readCounts and readLengthTable. -/
set_option linter.unusedVariables false
namespace Go.Proofs.YtephkcdbnogdhaaGreatDoor.Pr
open Go.RowKit Rf
theorem RdE.allocE {w : World} {tb : Src} {rb : Nat} {s : ByteArray} {pos : Nat} (h : Rd w tb rb s pos) (o : Obj) : RdE (w.alloc o) tb rb s := h.rdE.alloc o
set_option maxRecDepth 10000 in
set_option maxHeartbeats 8000000 in
theorem counts_any (tb : Src) (rb : Nat) (s : ByteArray) (pos : Nat) (w : World) (h : Rd w tb rb s pos) (hs : s.size ≤ 140737488354000) :
    Calls Tryz.prog 201 #[.pointer (some ⟨rb, 0, none⟩)] w fun e w' =>
      (∃ a b n : Nat, hdrT s ⟨pos, false⟩ = (a, b, n, ⟨pos + 14, false⟩) ∧ 257 ≤ a ∧ a ≤ 286 ∧ 1 ≤ b ∧ b ≤ 30 ∧ 4 ≤ n ∧ n ≤ 19 ∧ e = .returned (.tuple #[.int .i64 (a : Int), .int .i64 (b : Int), .int .i64 (n : Int), .nilIface]) ∧ Rd w' tb rb s (pos + 14) ∧ RF tb rb w w') ∨
      ((∃ T a, e = .returned (.tuple #[.int .i64 0, .int .i64 0, .int .i64 0, .iface T (.pointer (some a))]) ∧ Why tb w' T a ((hdrT s ⟨pos, false⟩).2.2.2.bad = true)) ∧ RdE w' tb rb s ∧ RF tb rb w w') := by
  go_enter Tryz.func201, Tryz.ntmps201
  go_wp2_with fail
  refine (number_any tb rb s pos 5 _ h hs (by omega)).mono ?_
  rintro e w1 (⟨a1, a2, rfl, a3, a4⟩ | ⟨⟨T, a, rfl, a1⟩, a3, a4⟩)
  rotate_left
  · go_wp2_with fail
    refine bodyPost_ret (v := .tuple #[.int .i64 0, .int .i64 0, .int .i64 0, .iface T (.pointer (some a))]) (by simp [results, Tryz.results201, go_sem]) rfl (.inr ⟨⟨T, a, rfl, a1.imp (fun a1 => hdrSt_keep _ _ _ (numT_keep s 4 _ (numT_keep s 5 _ a1)))⟩, a3, a4⟩)
  have N1 : Hid (numT s 5 ⟨pos, false⟩ = (bitsV s pos 5, ⟨pos + 5, false⟩)) := numT_ok s 5 pos a2
  have hb1 : bitsV s pos 5 < 32 := bitsV_lt s pos 5
  generalize bitsV s pos 5 = n1 at *
  by_cases h1 : n1 + 257 ≤ 286
  rotate_left
  · have d1 : decide ((286 : Int) < (n1 : Int) + 257) = true := decide_eq_true (by omega)
    go_wp2_with fail
    refine (mal_any _ _).mono ?_
    rintro e w2 ⟨rfl, rfl⟩
    go_wp2_with fail
    refine bodyPost_ret (v := .tuple #[.int .i64 0, .int .i64 0, .int .i64 0, .iface 142 (.pointer (some ⟨w1.heap.size, 0, none⟩))]) (by simp [results, Tryz.results201, go_sem]) rfl (.inr ⟨⟨_, _, rfl, Why.mal ?_⟩, RdE.allocE a3 _, a4.alloc _⟩)
    unfold hdrT
    dsimp only
    rw [N1.out]
    unfold hdrSt
    rw [if_pos (.inl (by dsimp only; omega))]
  have d1 : decide ((286 : Int) < (n1 : Int) + 257) = false := decide_eq_false (by omega)
  go_wp2_with fail
  refine (number_any tb rb s (pos + 5) 5 _ a3 hs (by omega)).mono ?_
  rintro e w2 (⟨b1, b2, rfl, b3, b4⟩ | ⟨⟨T, a, rfl, b1⟩, b3, b4⟩)
  rotate_left
  · go_wp2_with fail
    refine bodyPost_ret (v := .tuple #[.int .i64 0, .int .i64 0, .int .i64 0, .iface T (.pointer (some a))]) (by simp [results, Tryz.results201, go_sem]) rfl (.inr ⟨⟨T, a, rfl, b1.imp (fun b1 => ?_)⟩, b3, a4.trans b4⟩)
    unfold hdrT
    dsimp only
    rw [N1.out]
    exact hdrSt_keep _ _ _ (numT_keep s 4 _ b1)
  have N2 : Hid (numT s 5 ⟨pos + 5, false⟩ = (bitsV s (pos + 5) 5, ⟨pos + 5 + 5, false⟩)) := numT_ok s 5 (pos + 5) b2
  have hb2 : bitsV s (pos + 5) 5 < 32 := bitsV_lt s (pos + 5) 5
  generalize bitsV s (pos + 5) 5 = n2 at *
  by_cases h2 : n2 + 1 ≤ 30
  rotate_left
  · have d2 : decide ((30 : Int) < (n2 : Int) + 1) = true := decide_eq_true (by omega)
    go_wp2_with fail
    refine (mal_any _ _).mono ?_
    rintro e w3 ⟨rfl, rfl⟩
    go_wp2_with fail
    refine bodyPost_ret (v := .tuple #[.int .i64 0, .int .i64 0, .int .i64 0, .iface 142 (.pointer (some ⟨w2.heap.size, 0, none⟩))]) (by simp [results, Tryz.results201, go_sem]) rfl (.inr ⟨⟨_, _, rfl, Why.mal ?_⟩, RdE.allocE b3 _, (a4.trans b4).alloc _⟩)
    unfold hdrT
    dsimp only
    rw [N1.out]
    dsimp only
    rw [N2.out]
    unfold hdrSt
    rw [if_pos (.inr (by dsimp only; omega))]
  have d2 : decide ((30 : Int) < (n2 : Int) + 1) = false := decide_eq_false (by omega)
  go_wp2_with fail
  refine (number_any tb rb s (pos + 5 + 5) 4 _ b3 hs (by omega)).mono ?_
  rintro e w3 (⟨c1, c2, rfl, c3, c4⟩ | ⟨⟨T, a, rfl, c1⟩, c3, c4⟩)
  rotate_left
  · go_wp2_with fail
    refine bodyPost_ret (v := .tuple #[.int .i64 0, .int .i64 0, .int .i64 0, .iface T (.pointer (some a))]) (by simp [results, Tryz.results201, go_sem]) rfl (.inr ⟨⟨T, a, rfl, c1.imp (fun c1 => ?_)⟩, c3, (a4.trans b4).trans c4⟩)
    unfold hdrT
    dsimp only
    rw [N1.out]
    dsimp only
    rw [N2.out]
    exact hdrSt_keep _ _ _ c1
  have N3 : Hid (numT s 4 ⟨pos + 5 + 5, false⟩ = (bitsV s (pos + 5 + 5) 4, ⟨pos + 5 + 5 + 4, false⟩)) := numT_ok s 4 (pos + 5 + 5) c2
  have hb3 : bitsV s (pos + 5 + 5) 4 < 16 := bitsV_lt s (pos + 5 + 5) 4
  generalize bitsV s (pos + 5 + 5) 4 = n3 at *
  go_wp2_with fail
  refine bodyPost_ret (v := .tuple #[.int .i64 ((n1 + 257 : Nat) : Int), .int .i64 ((n2 + 1 : Nat) : Int), .int .i64 ((n3 + 4 : Nat) : Int), .nilIface]) (by simp [results, Tryz.results201, go_sem]) rfl (.inl ⟨n1 + 257, n2 + 1, n3 + 4, ?_, by omega, h1, by omega, h2, by omega, by omega, rfl, c3, (a4.trans b4).trans c4⟩)
  unfold hdrT
  (try dsimp only)
  rw [N1.out]
  (try dsimp only)
  rw [N2.out]
  (try dsimp only)
  rw [N3.out]
  unfold hdrSt
  rw [if_neg (by first | omega | (dsimp only; omega))]
end Go.Proofs.YtephkcdbnogdhaaGreatDoor.Pr
/- The walks of readTurned, readCount and stored. -/
set_option linter.unusedVariables false
namespace Go.Proofs.YtephkcdbnogdhaaGreatDoor.Rf
theorem storedT_bad (s : ByteArray) (most : Nat) (u : US) (h : (headT s u.st).2.bad = true) : (storedT s most u).st.bad = true := by
  unfold storedT
  rw [stL_bad s most _ _ h]; exact h
theorem stL_over (s : ByteArray) (most : Nat) (n : Nat) : ∀ u : US, most < u.out.length + n → u.out.length ≤ most → (stL s most n u).st.bad = true := by
  induction n with
  | zero => intro u h h2; omega
  | succ n ih =>
    intro u h h2
    by_cases hb : u.st.bad = true
    · rw [stL_bad s most _ _ hb]; exact hb
    · have hb' : u.st.bad = false := by simpa using hb
      rw [stL_go s most n u hb']
      by_cases hn : (numT s 8 u.st).2.bad = true
      · by_cases hf : most ≤ u.out.length
        · rw [putT_full most _ ⟨(numT s 8 u.st).2, u.out⟩ hf, stL_bad s most _ _ rfl]
        · rw [putT_bad most _ ⟨(numT s 8 u.st).2, u.out⟩ hf hn, stL_bad s most _ _ hn]; exact hn
      · have hn' : (numT s 8 u.st).2.bad = false := by simpa using hn
        by_cases hf : most ≤ u.out.length
        · rw [putT_full most _ ⟨(numT s 8 u.st).2, u.out⟩ hf, stL_bad s most _ _ rfl]
        · rw [putT_go most _ ⟨(numT s 8 u.st).2, u.out⟩ hf hn']
          exact ih _ (by simp; omega) (by simp; omega)
theorem stL_len (s : ByteArray) (most : Nat) (n : Nat) : ∀ u : US, (stL s most n u).out.length ≤ u.out.length + n := by
  induction n with
  | zero => intro u; exact Nat.le_refl _
  | succ n ih =>
    intro u
    by_cases hb : u.st.bad = true
    · rw [stL_bad s most _ _ hb]; omega
    · have hb' : u.st.bad = false := by simpa using hb
      rw [stL_go s most n u hb']
      refine Nat.le_trans (ih _) ?_
      by_cases hf : most ≤ u.out.length
      · rw [putT_full most _ ⟨(numT s 8 u.st).2, u.out⟩ hf]; dsimp only; omega
      · by_cases hn : (numT s 8 u.st).2.bad = true
        · rw [putT_bad most _ ⟨(numT s 8 u.st).2, u.out⟩ hf hn]; dsimp only; omega
        · rw [putT_go most _ ⟨(numT s 8 u.st).2, u.out⟩ hf (by simpa using hn)]; simp; omega
theorem half_sum (n a b : Nat) (ha : a < 256) (hb : b < 256) (h : n < 65536) : n + (a + 256 * b) = 65535 ↔ a = 255 - n % 256 ∧ b = 255 - n / 256 := by omega
/-- the count's turned-over number, at a place -/
def TurnOk (s : ByteArray) (p n : Nat) : Prop := p + 16 ≤ 8 * s.size ∧ n + bitsV s p 16 = 65535
theorem TurnOk.iff (s : ByteArray) (p n : Nat) (h : n < 65536) : TurnOk s p n ↔ p + 16 ≤ 8 * s.size ∧ bitsV s p 8 = 255 - n % 256 ∧ bitsV s (p + 8) 8 = 255 - n / 256 := by
  have e : bitsV s p 16 = bitsV s p 8 + 2 ^ 8 * bitsV s (p + 8) 8 := bitsV_add s p 8 8
  have h1 := bitsV_lt s p 8
  have h2 := bitsV_lt s (p + 8) 8
  unfold TurnOk
  rw [e, half_sum n _ _ h1 h2 h]
theorem num8_short (s : ByteArray) (p : Nat) (h : (numT s 8 ⟨p, false⟩).2.bad = true) : ¬ p + 8 ≤ 8 * s.size := fun hk => by
  rw [numT_ok s 8 p hk] at h; cases h
theorem num16_short (s : ByteArray) (p : Nat) (h : (numT s 16 ⟨p, false⟩).2.bad = true) : ¬ p + 16 ≤ 8 * s.size := fun hk => by
  rw [numT_ok s 16 p hk] at h; cases h
/-- how a block of sort 0 begins -/
theorem head_no (s : ByteArray) (pos p0 n1 : Nat) (hp : p0 = (pos + 7) / 8 * 8) (N1 : numT s 16 ⟨p0, false⟩ = (n1, ⟨p0 + 16, false⟩)) (hn : p0 + 16 ≤ 8 * s.size) (h : ¬ TurnOk s (p0 + 16) n1) : (headT s ⟨pos, false⟩).2.bad = true := by
  have hal : alignT ⟨pos, false⟩ = ⟨p0, false⟩ := by rw [hp]; rfl
  unfold headT
  rw [hal, N1]
  dsimp only
  by_cases h2 : p0 + 16 + 16 ≤ 8 * s.size
  · rw [numT_ok s 16 (p0 + 16) h2]
    dsimp only
    rw [if_neg (fun e => h ⟨h2, e⟩)]
  · have := numT_short s 16 (p0 + 16) hn (by omega)
    split
    · exact this
    · rfl
theorem head_yes (s : ByteArray) (pos p0 n1 : Nat) (hp : p0 = (pos + 7) / 8 * 8) (N1 : numT s 16 ⟨p0, false⟩ = (n1, ⟨p0 + 16, false⟩)) (h : TurnOk s (p0 + 16) n1) : headT s ⟨pos, false⟩ = (n1, ⟨p0 + 16 + 16, false⟩) := by
  have hal : alignT ⟨pos, false⟩ = ⟨p0, false⟩ := by rw [hp]; rfl
  unfold headT
  rw [hal, N1]
  dsimp only
  rw [numT_ok s 16 (p0 + 16) h.1]
  dsimp only
  rw [if_pos h.2]
theorem head_none (s : ByteArray) (pos p0 : Nat) (hp : p0 = (pos + 7) / 8 * 8) (h : (numT s 16 ⟨p0, false⟩).2.bad = true) : (headT s ⟨pos, false⟩).2.bad = true := by
  have hal : alignT ⟨pos, false⟩ = ⟨p0, false⟩ := by rw [hp]; rfl
  unfold headT
  rw [hal]
  dsimp only
  split
  · exact numT_keep s 16 _ h
  · rfl
theorem head_count (s : ByteArray) (pos p0 n1 : Nat) (hp : p0 = (pos + 7) / 8 * 8) (N1 : numT s 16 ⟨p0, false⟩ = (n1, ⟨p0 + 16, false⟩)) : (headT s ⟨pos, false⟩).1 = n1 := by
  have hal : alignT ⟨pos, false⟩ = ⟨p0, false⟩ := by rw [hp]; rfl
  unfold headT
  rw [hal, N1]
end Go.Proofs.YtephkcdbnogdhaaGreatDoor.Rf
namespace Go.Proofs.YtephkcdbnogdhaaGreatDoor.Pr
open Go.RowKit Rf
theorem not_u8 (x : Nat) (h : x < 256) : bits BinOp.xor IntKind.u8 IntKind.u8.max (x : Int) = 255 - (x : Int) := by
  have all : ∀ x : Fin 256, bits BinOp.xor IntKind.u8 IntKind.u8.max (x.val : Int) = 255 - (x.val : Int) := by decide +kernel
  exact all ⟨x, h⟩
set_option maxRecDepth 10000 in
set_option maxHeartbeats 4000000 in
theorem readTurned_any (S : Sink) (A : Adr) (s : ByteArray) (win most p n : Nat) (out : List UInt8) (w : World) (h : UP S w A s win most ⟨⟨p, false⟩, out⟩) (hs : s.size ≤ 140737488354000) (hn : n < 65536) :
    Calls Tryz.prog 195 #[.pointer (some ⟨A.ub, 0, none⟩), .int .i64 (n : Int)] w fun e w' =>
      (TurnOk s p n ∧ e = .returned .nilIface ∧ UP S w' A s win most ⟨⟨p + 16, false⟩, out⟩ ∧ PE A.base w w') ∨
      ((∃ T a, e = .returned (.iface T (.pointer (some a))) ∧ Why A.tb w' T a (¬ TurnOk s p n)) ∧ UE w' A s ∧ PE A.base w w') := by
  have HT : Hid _ := TurnOk.iff s p n hn
  obtain ⟨Q, hQ⟩ : ∃ Q : Prop, Q = TurnOk s p n := ⟨_, rfl⟩
  rw [← hQ] at HT ⊢
  clear hQ
  obtain ⟨c0, _, _, _⟩ := h.cells
  obtain ⟨f1, f2, f3⟩ := h.facts
  dsimp only at f2
  have hsg : IntKind.u8.signed = false := rfl
  have hx1 : bits BinOp.xor IntKind.u8 IntKind.u8.max ((n : Int) % 256) = 255 - (n : Int) % 256 := by
    have := not_u8 (n % 256) (by omega)
    rw [show ((n % 256 : Nat) : Int) = (n : Int) % 256 by omega] at this
    exact this
  have hx2 : bits BinOp.xor IntKind.u8 IntKind.u8.max ((n : Int) / 256) = 255 - (n : Int) / 256 := by
    have := not_u8 (n / 256) (by omega)
    rw [show ((n / 256 : Nat) : Int) = (n : Int) / 256 by omega] at this
    exact this
  have hx3 : bits BinOp.xor IntKind.u8 IntKind.u8.max ((n : Int) / 256 % 256) = 255 - (n : Int) / 256 := by
    rw [show (n : Int) / 256 % 256 = (n : Int) / 256 by omega]; exact hx2
  go_enter Tryz.func195, Tryz.ntmps195
  go_wp2_with fail
  refine wp_loop_rounds 3 ?_
  rw [rounds_succ]
  go_wp2_with fail
  refine (number_any A.tb A.rb s p 8 _ f2 hs (by omega)).mono ?_
  rintro e w1 (⟨_, a2, rfl, a3, a4⟩ | ⟨⟨T, a, rfl, a1⟩, a3, a4⟩)
  rotate_left
  · have HW : Why A.tb w1 T a (¬ Q) := a1.imp (fun a1 hq => num8_short s p a1 (by have := (HT.out.1 hq).1; omega))
    have hfin := h.rdE a3 a4
    clear a1
    go_wp2_with fail
    go_ret
    exact .inr ⟨⟨T, a, rfl, HW⟩, hfin.1, hfin.2⟩
  obtain ⟨hU1, hP1⟩ := h.rd _ a3 a4
  have hb1 : bitsV s p 8 < 256 := bitsV_lt s p 8
  obtain ⟨b1, hbb1⟩ : ∃ b, b = bitsV s p 8 := ⟨_, rfl⟩
  rw [← hbb1] at hb1 ⊢
  have HV1 : Hid (b1 = bitsV s p 8) := hbb1
  clear hbb1 c0 f2
  obtain ⟨c0, _, _, _⟩ := hU1.cells
  obtain ⟨_, f2, _⟩ := hU1.facts
  dsimp only at f2
  by_cases e1 : b1 = 255 - n % 256
  rotate_left
  · have d1 : ((b1 : Int) != 255 - (n : Int) % 256) = true := by rw [bne_iff_ne]; omega
    have HN : Hid (¬ Q) := (fun hq => e1 (HV1.out.trans (HT.out.1 hq).2.1) : ¬ _)
    clear e1
    go_wp2_with fail
    refine (mal_any _ _).mono ?_
    rintro e w9 ⟨rfl, rfl⟩
    go_wp2_with fail
    go_ret
    exact .inr ⟨⟨_, _, rfl, Why.mal HN.out⟩, hU1.ue.alloc _, hP1.trans (PE.alloc _ _ _ hU1.base)⟩
  have d1 : ((b1 : Int) != 255 - (n : Int) % 256) = false := by rw [bne_eq_false_iff_eq]; omega
  have E1 : Hid (bitsV s p 8 = 255 - n % 256) := (HV1.out.symm.trans e1 : _ = _)
  clear e1
  go_wp2_with fail
  rw [rounds_succ]
  go_wp2_with fail
  refine (number_any A.tb A.rb s (p + 8) 8 _ f2 hs (by omega)).mono ?_
  rintro e w2 (⟨_, b2, rfl, b3, b4⟩ | ⟨⟨T, a, rfl, b1⟩, b3, b4⟩)
  rotate_left
  · have HW : Why A.tb w2 T a (¬ Q) := b1.imp (fun a1 hq => num8_short s (p + 8) a1 (by have := (HT.out.1 hq).1; omega))
    have hfin := hU1.rdE b3 b4
    clear b1
    go_wp2_with fail
    go_ret
    exact .inr ⟨⟨T, a, rfl, HW⟩, hfin.1, hP1.trans hfin.2⟩
  obtain ⟨hU2, hP2⟩ := hU1.rd _ b3 b4
  have hb2 : bitsV s (p + 8) 8 < 256 := bitsV_lt s (p + 8) 8
  obtain ⟨b2', hbb2⟩ : ∃ b, b = bitsV s (p + 8) 8 := ⟨_, rfl⟩
  rw [← hbb2] at hb2 ⊢
  have HV2 : Hid (b2' = bitsV s (p + 8) 8) := hbb2
  have HB2 : Hid (p + 16 ≤ 8 * s.size) := (by omega : _ ≤ _)
  clear hbb2 c0 f2 b2
  by_cases e2 : b2' = 255 - n / 256
  rotate_left
  · have d1 : ((b2' : Int) != 255 - (n : Int) / 256) = true := by rw [bne_iff_ne]; omega
    have HN : Hid (¬ Q) := (fun hq => e2 (HV2.out.trans (HT.out.1 hq).2.2) : ¬ _)
    clear e2
    go_wp2_with fail
    refine (mal_any _ _).mono ?_
    rintro e w9 ⟨rfl, rfl⟩
    go_wp2_with fail
    go_ret
    exact .inr ⟨⟨_, _, rfl, Why.mal HN.out⟩, hU2.ue.alloc _, (hP1.trans hP2).trans (PE.alloc _ _ _ hU2.base)⟩
  have d2 : ((b2' : Int) != 255 - (n : Int) / 256) = false := by rw [bne_eq_false_iff_eq]; omega
  have HQ : Hid Q := (HT.out.2 ⟨HB2.out, E1.out, HV2.out.symm.trans e2⟩ : Q)
  clear e2
  go_wp2_with fail
  rw [rounds_succ]
  go_wp2_with fail
  go_ret
  exact .inl ⟨HQ.out, rfl, hU2, hP1.trans hP2⟩
/-- a count that may be -/
def CountOk (A : Adr) (s : ByteArray) (most p len : Nat) (last : Bool) : Prop := p + 16 ≤ 8 * s.size ∧ len + bitsV s p 16 ≤ most ∧ (last = true → A.al = true → most ≤ len + bitsV s p 16) ∧ TurnOk s (p + 16) (bitsV s p 16)
set_option maxRecDepth 10000 in
set_option maxHeartbeats 4000000 in
theorem readCount_any (S : Sink) (A : Adr) (s : ByteArray) (win most p : Nat) (out : List UInt8) (last : Bool) (w : World) (h : UP S w A s win most ⟨⟨p, false⟩, out⟩) (hs : s.size ≤ 140737488354000) (hm : most ≤ 16777216) :
    Calls Tryz.prog 169 #[.pointer (some ⟨A.ub, 0, none⟩), .bool last] w fun e w' =>
      (CountOk A s most p out.length last ∧ e = .returned (.tuple #[.int .i64 ((bitsV s p 16 : Nat) : Int), .nilIface]) ∧ UP S w' A s win most ⟨⟨p + 16 + 16, false⟩, out⟩ ∧ PE A.base w w') ∨
      ((∃ n T a, e = .returned (.tuple #[.int .i64 n, .iface T (.pointer (some a))]) ∧ Why A.tb w' T a (¬ CountOk A s most p out.length last)) ∧ UE w' A s ∧ PE A.base w w') := by
  obtain ⟨c0, _, _, _⟩ := h.cells
  obtain ⟨f1, f2, f3⟩ := h.facts
  dsimp only at f2 f3
  have hb1 : bitsV s p 16 < 65536 := bitsV_lt s p 16
  have HC : Hid (CountOk A s most p out.length last ↔ p + 16 ≤ 8 * s.size ∧ out.length + bitsV s p 16 ≤ most ∧ (last = true → A.al = true → most ≤ out.length + bitsV s p 16) ∧ TurnOk s (p + 16) (bitsV s p 16)) := Iff.rfl
  obtain ⟨Q, hQ⟩ : ∃ Q : Prop, Q = CountOk A s most p out.length last := ⟨_, rfl⟩
  rw [← hQ] at HC ⊢
  clear hQ
  have hN := number_any A.tb A.rb s p 16 w f2 hs (by omega)
  generalize bitsV s p 16 = n at *
  go_enter Tryz.func169, Tryz.ntmps169
  go_wp2_with fail
  refine hN.mono ?_
  rintro e w1 (⟨_, a2, rfl, a3, a4⟩ | ⟨⟨T, a, rfl, a1⟩, a3, a4⟩)
  rotate_left
  · have HW : Why A.tb w1 T a (¬ Q) := a1.imp (fun a1 hq => num16_short s p a1 (HC.out.1 hq).1)
    have hfin := h.rdE a3 a4
    clear a1
    go_wp2_with fail
    go_ret2
    exact .inr ⟨⟨_, T, a, rfl, HW⟩, hfin.1, hfin.2⟩
  obtain ⟨hU1, hP1⟩ := h.rd _ a3 a4
  have HP16 : Hid (p + 16 ≤ 8 * s.size) := a2
  clear hN c0 f2 a2
  go_wp2_with fail
  refine (room_any S A s win most n _ _ hU1 hm (by omega)).mono ?_
  rintro e w2 (⟨k1, rfl, hw⟩ | ⟨⟨T, a, rfl, k1⟩, k2, k3⟩)
  rotate_left
  · have HW : Why A.tb w2 T a (¬ Q) := k1.imp (fun k1 hq => k1 (HC.out.1 hq).2.1)
    clear k1
    go_wp2_with fail
    go_ret2
    exact .inr ⟨⟨_, T, a, rfl, HW⟩, k2, hP1.trans k3⟩
  have hw := hw.symm
  subst hw
  have HK1 : Hid (out.length + n ≤ most) := k1
  clear k1
  have HFIN : ∀ HE : (last = true → A.al = true → most ≤ out.length + n), Calls Tryz.prog 195 #[.pointer (some ⟨A.ub, 0, none⟩), .int .i64 (n : Int)] w1 fun e w' =>
      (Q ∧ e = .returned .nilIface ∧ UP S w' A s win most ⟨⟨p + 16 + 16, false⟩, out⟩ ∧ PE A.base w1 w') ∨
      ((∃ T a, e = .returned (.iface T (.pointer (some a))) ∧ Why A.tb w' T a (¬ Q)) ∧ UE w' A s ∧ PE A.base w1 w') := fun HE => by
    refine (readTurned_any S A s win most (p + 16) n out w1 hU1 hs hb1).mono ?_
    rintro e w3 (⟨q1, q2, q3, q4⟩ | ⟨⟨T, a, q0, q1⟩, q3, q4⟩)
    · exact .inl ⟨HC.out.2 ⟨HP16.out, HK1.out, HE, q1⟩, q2, q3, q4⟩
    · exact .inr ⟨⟨T, a, q0, q1.imp (fun q1 hq => q1 (HC.out.1 hq).2.2.2)⟩, q3, q4⟩
  cases last with
  | false =>
    have HF := HFIN (fun e => by cases e)
    clear HFIN
    go_wp2_with fail
    refine HF.mono ?_
    rintro e w3 (⟨q1, rfl, q3, q4⟩ | ⟨⟨T, a, rfl, q1⟩, q3, q4⟩)
    · have HQ : Hid Q := q1
      clear q1
      go_wp2_with fail
      go_ret2
      exact .inl ⟨HQ.out, rfl, q3, hP1.trans q4⟩
    · go_wp2_with fail
      go_ret2
      exact .inr ⟨⟨_, T, a, rfl, q1⟩, q3, hP1.trans q4⟩
  | true =>
    go_wp2_with fail
    refine (enough_any S A s win most n _ _ hU1 hm (by omega)).mono ?_
    rintro e w2 (⟨k1, rfl, hw⟩ | ⟨⟨T, a, rfl, k1⟩, k2, k3⟩)
    rotate_left
    · have HW : Why A.tb w2 T a (¬ Q) := k1.imp (fun k1 hq => by have := (HC.out.1 hq).2.2.1 (by first | exact trivial | rfl) k1.1; have := k1.2; dsimp only at this; omega)
      clear k1
      go_wp2_with fail
      go_ret2
      exact .inr ⟨⟨_, T, a, rfl, HW⟩, k2, hP1.trans k3⟩
    have hw := hw.symm
    subst hw
    have HF := HFIN (fun _ => k1)
    clear HFIN k1
    go_wp2_with fail
    refine HF.mono ?_
    rintro e w3 (⟨q1, rfl, q3, q4⟩ | ⟨⟨T, a, rfl, q1⟩, q3, q4⟩)
    · have HQ : Hid Q := q1
      clear q1
      go_wp2_with fail
      go_ret2
      exact .inl ⟨HQ.out, rfl, q3, hP1.trans q4⟩
    · go_wp2_with fail
      go_ret2
      exact .inr ⟨⟨_, T, a, rfl, q1⟩, q3, hP1.trans q4⟩
/-- how a block of sort 0 ends -/
def StRes (S : Sink) (A : Adr) (s : ByteArray) (win most : Nat) (w : World) (last : Bool) (U : US) (e : Ending) (w' : World) : Prop :=
  (U.st.bad = false ∧ e = .returned .nilIface ∧ UP S w' A s win most U ∧ PE A.base w w') ∨
  ((∃ T a, e = .returned (.iface T (.pointer (some a))) ∧ Why A.tb w' T a (Stop S U ∨ (last = true ∧ Short A most U))) ∧ UE w' A s ∧ PE A.base w w')
set_option maxRecDepth 10000 in
set_option maxHeartbeats 8000000 in
theorem stored_any (S : Sink) (A : Adr) (s : ByteArray) (win most : Nat) (u : US) (last : Bool) (w : World) (hP : PutOk S A.base) (h : UP S w A s win most u) (hs : s.size ≤ 140737488354000) (hm : most ≤ 16777216) (hw1 : 1 ≤ win) (hw2 : win ≤ 32768) :
    Calls Tryz.prog 134 #[.pointer (some ⟨A.ub, 0, none⟩), .bool last] w fun e w' => StRes S A s win most w last (storedT s most u) e w' := by
  have hbad := h.facts.1
  obtain ⟨⟨pos, bad⟩, out⟩ := u
  dsimp only at hbad
  subst hbad
  obtain ⟨c0, _, _, _⟩ := h.cells
  obtain ⟨f1, f2, f3⟩ := h.facts
  dsimp only at f2
  go_enter Tryz.func134, Tryz.ntmps134
  go_wp2_with fail
  refine (align_any A.tb A.rb s pos _ f2).mono ?_
  rintro e w1 ⟨rfl, g1, g2⟩
  have hU1 := h.rd _ g1 g2
  obtain ⟨p0, hp0⟩ : ∃ p0, p0 = (pos + 7) / 8 * 8 := ⟨_, rfl⟩
  rw [← hp0] at hU1 g1
  have HP0 : Hid _ := hp0
  clear hp0 c0
  obtain ⟨hU1, hP1⟩ := hU1
  have hb1 : bitsV s p0 16 < 65536 := bitsV_lt s p0 16
  have hol : out.length ≤ most := hU1.facts.2.2
  go_wp2_with fail
  refine (readCount_any S A s win most p0 out last _ hU1 hs hm).mono ?_
  rintro e w2 (⟨a1, rfl, hU3, hP3⟩ | ⟨⟨n, T, a, rfl, a1⟩, a3, a4⟩)
  rotate_left
  · have HW : Why A.tb w2 T a (Stop S (storedT s most ⟨⟨pos, false⟩, out⟩) ∨ (last = true ∧ Short A most (storedT s most ⟨⟨pos, false⟩, out⟩))) := a1.imp (fun a1 => by
      by_cases z1 : p0 + 16 ≤ 8 * s.size
      · have N1 := numT_ok s 16 p0 z1
        have hc := head_count s pos p0 _ HP0.out N1
        by_cases z2 : out.length + bitsV s p0 16 ≤ most
        · by_cases z4 : TurnOk s (p0 + 16) (bitsV s p0 16)
          · refine .inr ?_
            by_cases z3 : last = true → A.al = true → most ≤ out.length + bitsV s p0 16
            · exact absurd ⟨z1, z2, z3, z4⟩ a1
            · have z5 : last = true ∧ A.al = true ∧ ¬ most ≤ out.length + bitsV s p0 16 := by
                refine ⟨?_, ?_, ?_⟩
                · cases last with
                  | true => rfl
                  | false => exact absurd (fun e => by cases e) z3
                · cases hal : A.al with
                  | true => rfl
                  | false => exact absurd (fun _ e => by rw [hal] at e; cases e) z3
                · exact fun e => z3 (fun _ _ => e)
              refine ⟨z5.1, z5.2.1, ?_⟩
              have hle := stL_len s most (headT s ⟨pos, false⟩).1 ⟨(headT s ⟨pos, false⟩).2, out⟩
              rw [hc] at hle
              have : (storedT s most ⟨⟨pos, false⟩, out⟩).out.length ≤ out.length + bitsV s p0 16 := by unfold storedT; rw [hc]; exact hle
              omega
          · exact .inl (.inl (storedT_bad s most _ (head_no s pos p0 _ HP0.out N1 z1 z4)))
        · refine .inl (.inl ?_)
          unfold storedT
          rw [hc]
          exact stL_over s most _ _ (by dsimp only; omega) hol
      · exact .inl (.inl (storedT_bad s most _ (head_none s pos p0 HP0.out (numT_short s 16 p0 hU1.facts.2.1.end_le (by omega))))))
    clear a1
    go_wp2_with fail
    go_ret
    exact .inr ⟨⟨T, a, rfl, HW⟩, a3, hP1.trans a4⟩
  have HT : Hid (storedT s most ⟨⟨pos, false⟩, out⟩ = stL s most (bitsV s p0 16) ⟨⟨p0 + 16 + 16, false⟩, out⟩) := (by
    unfold storedT
    rw [head_yes s pos p0 _ HP0.out (numT_ok s 16 p0 a1.1) a1.2.2.2] : _ = _)
  have hfitm : out.length + bitsV s p0 16 ≤ most := a1.2.1
  have hP123 := hP1.trans hP3
  clear a1
  generalize bitsV s p0 16 = n1 at *
  go_wp2_with fail
  go_loopw [25] (fun iv wr => ∃ (j : Nat) (t : US), j ≤ n1 ∧ iv = .int .i64 (j : Int) ∧ stL s most n1 ⟨⟨p0 + 16 + 16, false⟩, out⟩ = stL s most (n1 - j) t ∧ t.out.length = out.length + j ∧ UP S wr A s win most t ∧ PE A.base w wr) (fun iv _ => n1 - (intOf iv).toNat)
  case atStart => exact ⟨0, ⟨⟨p0 + 16 + 16, false⟩, out⟩, Nat.zero_le _, rfl, rfl, rfl, hU3, hP123⟩
  case round =>
    clear hU3 hP123 hU1 hP1 hP3
    obtain ⟨j, t, hj, rfl, ht1, ht2, hU, hPE⟩ := hrel
    have HTT : Hid _ := ht1
    have HL : Hid (t.out.length = out.length + j) := ht2
    clear ht1 ht2
    have hbad := hU.facts.1
    obtain ⟨⟨tp, bad⟩, tout⟩ := t
    dsimp only at hbad
    subst hbad
    by_cases hlt : j < n1
    · obtain ⟨c0, _, _, _⟩ := hU.cells
      obtain ⟨_, f2, _⟩ := hU.facts
      dsimp only at f2
      have H1 : Hid (stL s most (n1 - j) ⟨⟨tp, false⟩, tout⟩ = stL s most (n1 - (j + 1)) (putT most (UInt8.ofNat (numT s 8 ⟨tp, false⟩).1) ⟨(numT s 8 ⟨tp, false⟩).2, tout⟩)) := (by
        rw [show n1 - j = (n1 - (j + 1)) + 1 by omega]; exact stL_go s most _ _ rfl : _ = _)
      go_wp2_with fail
      refine (number_any A.tb A.rb s tp 8 _ f2 hs (by omega)).mono ?_
      rintro e w2 (⟨a1, a2, rfl, a3, a4⟩ | ⟨⟨T, a, rfl, a1⟩, a3, a4⟩)
      · obtain ⟨hU2, hP2⟩ := hU.rd _ a3 a4
        have hb8 : bitsV s tp 8 < 256 := bitsV_lt s tp 8
        have N8 : Hid (numT s 8 ⟨tp, false⟩ = (bitsV s tp 8, ⟨tp + 8, false⟩)) := numT_ok s 8 tp a2
        have hto : (UInt8.ofNat (bitsV s tp 8)).toNat = bitsV s tp 8 := by simp; omega
        have hlm : tout.length < most := by have := HL.out; (try dsimp only at this); omega
        have H2 : Hid (putT most (UInt8.ofNat (numT s 8 ⟨tp, false⟩).1) ⟨(numT s 8 ⟨tp, false⟩).2, tout⟩ = ⟨⟨tp + 8, false⟩, tout ++ [UInt8.ofNat (bitsV s tp 8)]⟩) := (by
          rw [N8.out]; exact putT_go most _ _ (by dsimp only; omega) rfl : _ = _)
        have hput := hP A s win most ⟨⟨tp + 8, false⟩, tout⟩ (UInt8.ofNat (bitsV s tp 8)) w2 rfl hU2 hlm hm hw1 hw2
        rw [hto] at hput
        clear hto c0 f2
        go_wp2_with fail
        refine hput.mono ?_
        rintro e w3 (⟨rfl, g1, g2⟩ | ⟨⟨T, a, rfl, g0⟩, g1, g2⟩)
        rotate_left
        · have HW : Why A.tb w3 T a (Stop S (storedT s most ⟨⟨pos, false⟩, out⟩) ∨ (last = true ∧ Short A most (storedT s most ⟨⟨pos, false⟩, out⟩))) := g0.imp (fun hst => .inl (.inr ⟨_, hst, by
            rw [HT.out, HTT.out, H1.out, H2.out]; exact stL_pre s most _ ⟨⟨tp + 8, false⟩, tout ++ [UInt8.ofNat (bitsV s tp 8)]⟩⟩))
          clear g0
          go_wp2_with fail
          go_ret
          exact .inr ⟨⟨T, a, rfl, HW⟩, g1, hPE.trans (hP2.trans g2)⟩
        go_wp2_with fail
        go_roundw
        case rel => exact ⟨j + 1, _, by omega, by go_num, HTT.out.trans (H1.out.trans (by rw [H2.out])), by simp only [List.length_append, List.length_singleton]; have := HL.out; (try dsimp only at this); omega, g1, hPE.trans (hP2.trans g2)⟩
        case measure => simp [intOf]; omega
      · have hfin := hU.rdE a3 a4
        have HW : Why A.tb w2 T a (Stop S (storedT s most ⟨⟨pos, false⟩, out⟩) ∨ (last = true ∧ Short A most (storedT s most ⟨⟨pos, false⟩, out⟩))) := a1.imp (fun a1 => .inl (.inl (by
          rw [HT.out, HTT.out, H1.out]
          by_cases hf : most ≤ tout.length
          · rw [putT_full most _ _ hf, stL_bad s most _ _ rfl]
          · rw [putT_bad most _ _ hf a1, stL_bad s most _ _ a1]; exact a1)))
        clear a1
        go_wp2_with fail
        go_ret
        exact .inr ⟨⟨T, a, rfl, HW⟩, hfin.1, hPE.trans hfin.2⟩
    · have H2 : Hid (stL s most n1 ⟨⟨p0 + 16 + 16, false⟩, out⟩ = ⟨⟨tp, false⟩, tout⟩) := (by rw [HTT.out, show n1 - j = 0 by omega]; rfl : _ = _)
      go_wp2_with fail
      go_ret
      exact .inl ⟨by rw [HT.out, H2.out], rfl, by rw [HT.out, H2.out]; exact hU, hPE⟩
end Go.Proofs.YtephkcdbnogdhaaGreatDoor.Pr
