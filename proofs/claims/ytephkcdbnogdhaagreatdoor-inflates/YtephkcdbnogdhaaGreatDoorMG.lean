/- A source of bytes, whatever it is: what the walks of the reader of bits ask of it. -/
import Derived.Test.YtephkcdbnogdhaaGreatDoorMA
import Derived.Test.YtephkcdbnogdhaaGreatDoorMB
import Derived.Test.YtephkcdbnogdhaaGreatDoorMF
import Derived.Laws.BitsAllLaws
import Derived.BigRegion
set_option linter.unusedVariables false
namespace Go.Proofs.YtephkcdbnogdhaaGreatDoor.Pr
open Go.RowKit Rf
/-- a source of bytes: the interface's value; the blocks that it turns; how many bytes were taken ahead of its row; what holds in memory where so many bytes of a row were taken, and behind an error; whether it may fail -/
structure Src where
  T : TypeId
  a : Addr
  base : Nat
  F : Nat → Prop
  z : Nat
  K : World → ByteArray → Nat → Prop
  KE : World → Prop
  mayFail : Prop
  fb : Addr
/-- why an error is told -/
def Why (S : Src) (w : World) (T : TypeId) (a : Addr) (P : Prop) : Prop := (IsMal w T a ∧ P) ∨ (IsFld S.fb w T a ∧ S.mayFail)
theorem Why.imp {S : Src} {w : World} {T : TypeId} {a : Addr} {P Q : Prop} (h : Why S w T a P) (f : P → Q) : Why S w T a Q := Or.imp (fun h => ⟨h.1, f h.2⟩) id h
theorem Why.over {S : Src} {w w' : World} {T : TypeId} {a : Addr} {P : Prop} (h : Why S w T a P) (hb : ∀ (k : Nat) (cur : Array Value) (f : Nat × Nat), w.heap[k]? = some (Obj.cells cur 216 f) → w'.heap[k]? = w.heap[k]?) : Why S w' T a P := Or.imp (fun h => ⟨h.1.over hb, h.2⟩) (fun h => ⟨h.1.over hb, h.2⟩) h
theorem Why.set {S : Src} {w : World} {T : TypeId} {a : Addr} {P : Prop} (h : Why S w T a P) {b : Nat} {cur : Array Value} {T' : TypeId} {f : Nat × Nat} (e : w.heap[b]? = some (.cells cur T' f)) (hT : T' ≠ 216) (o : Nat) (x : Value) : Why S (w.setCell ⟨b, o, none⟩ x) T a P := h.over (fun k cur' f' e' => set_other o x (fun he => by rw [he, e] at e'; simp at e'; exact hT e'.2.1))
theorem Why.grow {S : Src} {w w' : World} {T : TypeId} {a : Addr} {P : Prop} (h : Why S w T a P) (hb : ∀ k, k < w.heap.size → w'.heap[k]? = w.heap[k]?) : Why S w' T a P := h.over (fun k _ _ e => hb k (lt_of_some e))
theorem Why.alloc {S : Src} {w : World} {T : TypeId} {a : Addr} {P : Prop} (h : Why S w T a P) (o : Obj) : Why S (w.alloc o) T a P := h.grow (fun k hk => Below.heap_alloc w o k hk)
theorem Why.mal {S : Src} {w : World} {a : Addr} {P : Prop} (h : P) : Why S w 142 a P := .inl ⟨IsMal.mk w a, h⟩
theorem Lay.place {Q : TypeId → Addr → Prop} {w : World} {n : Nat} {T : TypeId} {a : Addr} (h : Lay Q w n T a) (u : Value) (m : Value) : Lay Q (w.alloc (.cells #[u, m, .iface T (.pointer (some a))] 216)) (n + 1) 214 ⟨w.heap.size, 0, none⟩ :=
  ⟨rfl, _, u, m, T, a, rfl, (MapKept.heap_alloc w _).1, h.grow (fun k hk => Below.heap_alloc w _ k hk)⟩
theorem Why.place {S : Src} {w : World} {T : TypeId} {a : Addr} {P : Prop} (h : Why S w T a P) (u : Value) (m : Value) : Why S (w.alloc (.cells #[u, m, .iface T (.pointer (some a))] 216)) 214 ⟨w.heap.size, 0, none⟩ P :=
  Or.imp (fun ⟨⟨n, h⟩, p⟩ => ⟨⟨n + 1, h.place u m⟩, p⟩) (fun ⟨⟨n, h⟩, p⟩ => ⟨⟨n + 1, h.place u m⟩, p⟩) h
/-- types of blocks that a source turns -/
def srcT (T : TypeId) : Bool := T == 141 || T == 218 || T == 307 || T == 156 || T == 158
/-- what is asked of a source -/
structure Src.Ok (S : Src) : Prop where
  ng : 7 ≤ S.base
  few : S.z ≤ 16
  low : ∀ k, S.F k → S.base ≤ k
  ke : ∀ {w s t}, S.K w s t → S.KE w
  typ : ∀ {w k}, S.KE w → S.F k → ∃ cur T f, w.heap[k]? = some (.cells cur T f) ∧ srcT T = true
  stable : ∀ {w w' s t}, S.K w s t → (∀ k, S.F k ∨ k < S.base → w'.heap[k]? = w.heap[k]?) → S.K w' s t
  stableE : ∀ {w w'}, S.KE w → (∀ k, S.F k ∨ k < S.base → w'.heap[k]? = w.heap[k]?) → S.KE w'
  hb : ∀ {w}, S.KE w → S.base ≤ w.heap.size
  need : ∀ (w : World) (s : ByteArray) (t : Nat), S.K w s t → t < s.size →
    Calls Tryz.prog 193 #[.iface S.T (.pointer (some S.a))] w fun e w' =>
      (e = .returned (.tuple #[.int .u8 ((byteAt s t : Nat) : Int), .nilIface]) ∧ S.K w' s (t + 1) ∧ Fr S.F w w') ∨
      (∃ x T a, e = .returned (.tuple #[.int .u8 x, .iface T (.pointer (some a))]) ∧ IsFld S.fb w' T a ∧ S.mayFail ∧ S.KE w' ∧ Fr S.F w w')
  needEnd : ∀ (w : World) (s : ByteArray), S.K w s s.size →
    Calls Tryz.prog 193 #[.iface S.T (.pointer (some S.a))] w fun e w' =>
      ∃ x T a, e = .returned (.tuple #[.int .u8 x, .iface T (.pointer (some a))]) ∧ Why S w' T a True ∧ S.KE w' ∧ Fr S.F w w'
theorem Src.Ok.lt {S : Src} (hS : S.Ok) {w : World} (h : S.KE w) {k : Nat} (hk : S.F k) : k < w.heap.size := by
  obtain ⟨cur, T, f, h, _⟩ := hS.typ h hk; exact lt_of_some h
theorem Src.Ok.ne {S : Src} (hS : S.Ok) {w : World} (h : S.KE w) {k : Nat} {cur : Array Value} {T : TypeId} {f : Nat × Nat} (hk : w.heap[k]? = some (.cells cur T f)) (hT : srcT T = false) : ¬ S.F k := fun hF => by
  obtain ⟨cur', T', f', h1, h2⟩ := hS.typ h hF
  rw [hk] at h1
  cases h1
  rw [hT] at h2; cases h2
end Go.Proofs.YtephkcdbnogdhaaGreatDoor.Pr
/- The program's row of bits over a source: what lies in memory; the walk of take. -/
set_option linter.unusedVariables false
namespace Go.Proofs.YtephkcdbnogdhaaGreatDoor.Pr
open Go.RowKit Rf
/-- but for the source's blocks and block rb nothing old has turned -/
structure RF (tb : Src) (rb : Nat) (w w' : World) : Prop where
  os : w'.os = w.os
  tape : w'.tape = w.tape
  output : w'.output = w.output
  size : w.heap.size ≤ w'.heap.size
  block : ∀ k, k < w.heap.size → ¬ tb.F k → k ≠ rb → w'.heap[k]? = w.heap[k]?
theorem RF.refl (tb : Src) (rb : Nat) (w : World) : RF tb rb w w := ⟨rfl, rfl, rfl, Nat.le_refl _, fun _ _ _ _ => rfl⟩
theorem RF.trans {tb : Src} {rb : Nat} {u v w : World} (h : RF tb rb u v) (k : RF tb rb v w) : RF tb rb u w :=
  ⟨k.os.trans h.os, k.tape.trans h.tape, k.output.trans h.output, Nat.le_trans h.size k.size, fun i hi a b => (k.block i (Nat.lt_of_lt_of_le hi h.size) a b).trans (h.block i hi a b)⟩
theorem RF.drewN {tb : Src} {rb : Nat} {u v : World} (h : RF tb rb u v) (n : Nat) : RF tb rb u (v.drewN n) := ⟨h.os, h.tape, h.output, h.size, h.block⟩
theorem RF.drew {tb : Src} {rb : Nat} {u v : World} (h : RF tb rb u v) : RF tb rb u v.drew := ⟨h.os, h.tape, h.output, h.size, h.block⟩
theorem RF.set {tb : Src} {rb : Nat} {u v : World} (h : RF tb rb u v) (o : Nat) (x : Value) : RF tb rb u (v.setCell ⟨rb, o, none⟩ x) :=
  ⟨h.os, h.tape, h.output, by simpa using h.size, fun k hk a e => (Below.heap_setCell v ⟨rb, o, none⟩ x k e).trans (h.block k hk a e)⟩
theorem RF.alloc {tb : Src} {rb : Nat} {u v : World} (h : RF tb rb u v) (o : Obj) : RF tb rb u (v.alloc o) :=
  ⟨h.os, h.tape, h.output, by have := h.size; simp; omega, fun k hk a e => (Below.heap_alloc v o k (Nat.lt_of_lt_of_le hk h.size)).trans (h.block k hk a e)⟩
theorem RF.of {tb : Src} {w w' : World} (rb : Nat) (h : Fr tb.F w w') : RF tb rb w w' := ⟨h.os, h.tape, h.output, h.size, fun k hk a _ => h.block k hk a⟩
/-- the reader lies in block rb: the bits from pos on are the next ones, c of them are held -/
def RdG (w : World) (tb : Src) (rb : Nat) (s : ByteArray) (pos c : Nat) : Prop :=
  ∃ t, pos + c = 8 * t ∧ t ≤ s.size ∧ tb.base ≤ rb ∧ tb.K w s t ∧ tb.Ok ∧
    w.heap[rb]? = some (.cells #[.iface tb.T (.pointer (some tb.a)), .int .u32 ((bitsV s pos c : Nat) : Int), .int .u64 (c : Int), .int .i64 ((t + tb.z : Nat) : Int)] 180 (0, 0))
/-- the reader behind an error -/
def RdE (w : World) (tb : Src) (rb : Nat) (s : ByteArray) : Prop :=
  ∃ c t : Nat, ∃ v : Int, c ≤ 23 ∧ t ≤ s.size + 16 ∧ tb.base ≤ rb ∧ tb.KE w ∧ tb.Ok ∧
    w.heap[rb]? = some (.cells #[.iface tb.T (.pointer (some tb.a)), .int .u32 v, .int .u64 (c : Int), .int .i64 ((t : Nat) : Int)] 180 (0, 0))
theorem RdG.rdE {w : World} {tb : Src} {rb : Nat} {s : ByteArray} {pos c : Nat} (h : RdG w tb rb s pos c) (hc : c ≤ 23) : RdE w tb rb s := by
  obtain ⟨t, h1, h2, h3, h4, h5, h6⟩ := h
  exact ⟨c, _, _, hc, by have := h5.few; omega, h3, h5.ke h4, h5, h6⟩
theorem RdG.no {w : World} {tb : Src} {rb : Nat} {s : ByteArray} {pos c : Nat} (h : RdG w tb rb s pos c) : ¬ tb.F rb := by
  obtain ⟨t, h1, h2, h3, h4, h5, h6⟩ := h
  exact h5.ne (h5.ke h4) h6 (by decide)
theorem RdE.no {w : World} {tb : Src} {rb : Nat} {s : ByteArray} (h : RdE w tb rb s) : ¬ tb.F rb := by
  obtain ⟨c, t, v, h1, h2, h3, h4, h5, h6⟩ := h
  exact h5.ne h4 h6 (by decide)
theorem RdG.over {w w' : World} {tb : Src} {rb : Nat} {s : ByteArray} {pos c : Nat} (h : RdG w tb rb s pos c) (e1 : ∀ k, tb.F k ∨ k < tb.base → w'.heap[k]? = w.heap[k]?) (e2 : w'.heap[rb]? = w.heap[rb]?) : RdG w' tb rb s pos c := by
  obtain ⟨t, h1, h2, h3, h4, h5, h6⟩ := h
  exact ⟨t, h1, h2, h3, h5.stable h4 e1, h5, e2.trans h6⟩
theorem RdE.over {w w' : World} {tb : Src} {rb : Nat} {s : ByteArray} (h : RdE w tb rb s) (e1 : ∀ k, tb.F k ∨ k < tb.base → w'.heap[k]? = w.heap[k]?) (e2 : w'.heap[rb]? = w.heap[rb]?) : RdE w' tb rb s := by
  obtain ⟨c, t, v, h1, h2, h3, h4, h5, h6⟩ := h
  exact ⟨c, t, v, h1, h2, h3, h5.stableE h4 e1, h5, e2.trans h6⟩
theorem RdE.lts {w : World} {tb : Src} {rb : Nat} {s : ByteArray} (h : RdE w tb rb s) : (∀ k, tb.F k ∨ k < tb.base → k < w.heap.size) ∧ rb < w.heap.size ∧ tb.base ≤ rb ∧ tb.base ≤ w.heap.size := by
  obtain ⟨c, t, v, h1, h2, h3, h4, h5, h6⟩ := h
  have := lt_of_some h6
  exact ⟨fun k hk => hk.elim (fun hk => h5.lt h4 hk) (fun hk => by omega), this, h3, by omega⟩
theorem RdG.lts {w : World} {tb : Src} {rb : Nat} {s : ByteArray} {pos c : Nat} (h : RdG w tb rb s pos c) : (∀ k, tb.F k ∨ k < tb.base → k < w.heap.size) ∧ rb < w.heap.size ∧ tb.base ≤ rb ∧ tb.base ≤ w.heap.size := by
  obtain ⟨t, h1, h2, h3, h4, h5, h6⟩ := h
  have := lt_of_some h6
  exact ⟨fun k hk => hk.elim (fun hk => h5.lt (h5.ke h4) hk) (fun hk => by omega), this, h3, by omega⟩
theorem RdG.grow {w w' : World} {tb : Src} {rb : Nat} {s : ByteArray} {pos c : Nat} (h : RdG w tb rb s pos c) (e : ∀ k, k < w.heap.size → w'.heap[k]? = w.heap[k]?) : RdG w' tb rb s pos c :=
  h.over (fun k hk => e k (h.lts.1 k hk)) (e rb h.lts.2.1)
theorem RdE.grow {w w' : World} {tb : Src} {rb : Nat} {s : ByteArray} (h : RdE w tb rb s) (e : ∀ k, k < w.heap.size → w'.heap[k]? = w.heap[k]?) : RdE w' tb rb s :=
  h.over (fun k hk => e k (h.lts.1 k hk)) (e rb h.lts.2.1)
theorem RdG.alloc {w : World} {tb : Src} {rb : Nat} {s : ByteArray} {pos c : Nat} (h : RdG w tb rb s pos c) (o : Obj) : RdG (w.alloc o) tb rb s pos c := h.grow (fun k hk => Below.heap_alloc w o k hk)
theorem RdE.alloc {w : World} {tb : Src} {rb : Nat} {s : ByteArray} (h : RdE w tb rb s) (o : Obj) : RdE (w.alloc o) tb rb s := h.grow (fun k hk => Below.heap_alloc w o k hk)
theorem RdE.drew {w : World} {tb : Src} {rb : Nat} {s : ByteArray} (h : RdE w tb rb s) : RdE w.drew tb rb s := h.grow (fun _ _ => rfl)
theorem RdE.drewN {w : World} {tb : Src} {rb : Nat} {s : ByteArray} (h : RdE w tb rb s) (n : Nat) : RdE (w.drewN n) tb rb s := h.grow (fun _ _ => rfl)
theorem RdG.setNew {w : World} {tb : Src} {rb : Nat} {s : ByteArray} {pos c : Nat} (h : RdG w tb rb s pos c) (b o : Nat) (x : Value) (h0 : tb.base ≤ b) (h1 : ¬ tb.F b) (h2 : b ≠ rb) : RdG (w.setCell ⟨b, o, none⟩ x) tb rb s pos c :=
  h.over (fun k hk => set_other o x (fun e => hk.elim (fun hk => h1 (e ▸ hk)) (fun hk => by omega))) (set_other o x (Ne.symm h2))
theorem RdE.setNew {w : World} {tb : Src} {rb : Nat} {s : ByteArray} (h : RdE w tb rb s) (b o : Nat) (x : Value) (h0 : tb.base ≤ b) (h1 : ¬ tb.F b) (h2 : b ≠ rb) : RdE (w.setCell ⟨b, o, none⟩ x) tb rb s :=
  h.over (fun k hk => set_other o x (fun e => hk.elim (fun hk => h1 (e ▸ hk)) (fun hk => by omega))) (set_other o x (Ne.symm h2))
/-- a call of a function that has a body -/
theorem callBody {f : FuncId} {fn : Func} (hf : Tryz.prog.funcs[f]? = some fn) (hname : (fn.name == "runtime.NumGoroutine") = false) (hb : fn.body.isSome = true) (args : Array Value) (w : World) : (callFunc f args).run Tryz.prog w = .ok (.enter f args) w := by
  obtain ⟨c, hc⟩ := Option.isSome_iff_exists.1 hb
  have h1 : fn.name ≠ "runtime.NumGoroutine" := by simpa using hname
  simp [callFunc, hf, h1, hc]
set_option maxRecDepth 10000 in
set_option maxHeartbeats 2000000 in
theorem mal_any (why : ByteArray) (w : World) :
    Calls Tryz.prog 137 #[.string why] w fun e w' => e = .returned (.iface 142 (.pointer (some ⟨w.heap.size, 0, none⟩))) ∧ w' = w.alloc (.cells #[.string why] 275) := by
  go_enter Tryz.func137, Tryz.ntmps137
  go_wp2
  go_ret
  exact ⟨rfl, rfl⟩
theorem or_up (v z c : Nat) (hv : v < 2 ^ c) (hc : c ≤ 15) (hr : z * 2 ^ c ≤ 255 * 2 ^ 15) : bits BinOp.or IntKind.u32 (v : Int) ((z : Int) * 2 ^ c % 4294967296) = ((v + z * 2 ^ c : Nat) : Int) := by
  have e1 : (z : Int) * 2 ^ c % 4294967296 = ((z * 2 ^ c : Nat) : Int) := by
    have : (z : Int) * 2 ^ c = ((z * 2 ^ c : Nat) : Int) := by simp
    rw [this]; omega
  have hv3 : v < 4294967296 := by
    have : 2 ^ c ≤ 2 ^ 15 := Nat.pow_le_pow_right (by omega) hc
    omega
  rw [e1, u32_or_nat v (z * 2 ^ c) hv3 (by omega)]
  congr 1
  rw [Nat.or_comm, Nat.mul_comm, ← Nat.two_pow_add_eq_or_of_lt hv z, Nat.add_comm]
set_option maxRecDepth 10000 in
set_option maxHeartbeats 2000000 in
theorem take_any (tb : Src) (rb : Nat) (s : ByteArray) (pos c : Nat) (w : World) (h : RdG w tb rb s pos c) (hc : c ≤ 15) (hs : s.size ≤ 140737488354000) :
    Calls Tryz.prog 168 #[.pointer (some ⟨rb, 0, none⟩)] w fun e w' =>
      (pos + c < 8 * s.size ∧ e = .returned .nilIface ∧ RdG w' tb rb s pos (c + 8) ∧ RF tb rb w w') ∨
      ((∃ T a, e = .returned (.iface T (.pointer (some a))) ∧ Why tb w' T a (¬ pos + c < 8 * s.size)) ∧ RdE w' tb rb s ∧ RF tb rb w w') := by
  have hno := h.no
  obtain ⟨t, h1, h2, h3, h4, hS, h5⟩ := h
  have c0 : w.cell? ⟨rb, 0, none⟩ = some (.iface tb.T (.pointer (some tb.a))) := by simpa using (cell_of h5 0).1
  have hfew := hS.few
  by_cases hlt : pos + c < 8 * s.size
  · have hts : t < s.size := by omega
    have hb : byteAt s t ≤ 255 := byteAt_lt s t
    have N := hS.need w s t h4 hts
    obtain ⟨z, hz⟩ : ∃ z, z = byteAt s t := ⟨_, rfl⟩
    rw [← hz] at N hb
    have hv : bitsV s pos c < 2 ^ c := bitsV_lt s pos c
    have hp : 2 ^ c ≤ 2 ^ 15 := Nat.pow_le_pow_right (by omega) hc
    obtain ⟨v, hv0⟩ : ∃ v, v = bitsV s pos c := ⟨_, rfl⟩
    rw [← hv0] at h5 hv
    have HV : Hid (bitsV s pos (c + 8) = v + z * 2 ^ c) := (by rw [bitsV_more s pos c t h1, hz, hv0] : _ = _)
    have hv2 : v ≤ 32767 := by omega
    have hr : z * 2 ^ c ≤ 255 * 2 ^ 15 := Nat.mul_le_mul hb hp
    obtain ⟨r, hr0⟩ : ∃ r, r = v + z * 2 ^ c := ⟨_, rfl⟩
    have hor : bits BinOp.or IntKind.u32 (v : Int) ((z : Int) * 2 ^ c % 4294967296) = (r : Int) := by rw [hr0]; exact or_up v z c hv hc hr
    have HR : Hid (r = bitsV s pos (c + 8)) := (hr0.trans HV.out.symm : _ = _)
    have HX : Hid (pos + c = 8 * t ∧ pos + c < 8 * s.size) := (⟨h1, hlt⟩ : _ ∧ _)
    obtain ⟨q, hq⟩ : ∃ q, q = t + tb.z := ⟨_, rfl⟩
    have hq2 : q ≤ 140737488354100 := by omega
    rw [← hq] at h5
    have HQ : Hid (q = t + tb.z) := hq
    clear hz hv0 hv hp h1 hr hr0 HV hq hlt
    go_enter Tryz.func168, Tryz.ntmps168
    go_wp2_with fail
    refine N.mono ?_
    rintro e w1 (⟨rfl, g4, g6⟩ | ⟨x, T, a, rfl, q1, q2, q3, q4⟩)
    · have g5 : w1.heap[rb]? = _ := (g6.block rb (lt_of_some h5) hno).trans h5
      clear h4 h5 c0 N
      have d1 : w1.cell? ⟨rb, 1, none⟩ = some (.int .u32 (v : Int)) := by simpa using (cell_of g5 1).1
      have d2 : w1.cell? ⟨rb, 2, none⟩ = some (.int .u64 (c : Int)) := by simpa using (cell_of g5 2).1
      have d3 : w1.cell? ⟨rb, 3, none⟩ = some (.int .i64 (q : Int)) := by simpa using (cell_of g5 3).1
      have e1 := (cell_of g5 1).2
      have e2 := (cell_of g5 2).2
      have e3 := (cell_of g5 3).2
      go_wp2_with fail
      go_region
      go_wp2
      go_ret
      refine .inl ⟨HX.out.2, rfl, ⟨t + 1, by have := HX.out.1; omega, by omega, h3, ?_, hS, ?_⟩, ?_⟩
      · refine hS.stable g4 (fun k hk => ?_)
        have hk' : k ≠ rb := fun e => hk.elim (fun hk => hno (e ▸ hk)) (fun hk => by omega)
        exact (set_other 3 _ hk').trans ((set_other 2 _ hk').trans (set_other 1 _ hk'))
      · refine (set_of (set_of (set_of g5 1 _) 2 _) 3 _).trans ?_
        rw [← HR.out]
        have : (t + 1 + tb.z : Nat) = q + 1 := by have := HQ.out; omega
        rw [this]
        simp
      · exact ((((RF.of rb g6).set 1 _).set 2 _).set 3 _).drew
    · have g5 : w1.heap[rb]? = _ := (q4.block rb (lt_of_some h5) hno).trans h5
      clear h4 c0 N hor
      go_wp2_with fail
      go_ret
      refine .inr ⟨⟨T, a, rfl, .inr ⟨q1, q2⟩⟩, ⟨c, q, _, by omega, by have := HQ.out; omega, h3, q3, hS, g5⟩, RF.of rb q4⟩
  · have hts : t = s.size := by omega
    subst hts
    have N := hS.needEnd w s h4
    have HX : Hid (¬ pos + c < 8 * s.size) := hlt
    clear hlt
    go_enter Tryz.func168, Tryz.ntmps168
    go_wp2_with fail
    refine N.mono ?_
    rintro e w1 ⟨x, T, a, rfl, q1, q3, q4⟩
    have g5 : w1.heap[rb]? = _ := (q4.block rb (lt_of_some h5) hno).trans h5
    clear h4 c0 N
    go_wp2_with fail
    go_ret
    exact .inr ⟨⟨T, a, rfl, q1.imp (fun _ => HX.out)⟩, ⟨c, _, _, by omega, by omega, h3, q3, hS, g5⟩, RF.of rb q4⟩
/-- the reader between two calls: fewer than 8 bits are held -/
def Rd (w : World) (tb : Src) (rb : Nat) (s : ByteArray) (pos : Nat) : Prop := ∃ c, c < 8 ∧ RdG w tb rb s pos c
theorem Rd.rdE {w : World} {tb : Src} {rb : Nat} {s : ByteArray} {pos : Nat} (h : Rd w tb rb s pos) : RdE w tb rb s := by
  obtain ⟨c, hc, h⟩ := h; exact h.rdE (by omega)
theorem Rd.over {w w' : World} {tb : Src} {rb : Nat} {s : ByteArray} {pos : Nat} (h : Rd w tb rb s pos) (e1 : ∀ k, tb.F k ∨ k < tb.base → w'.heap[k]? = w.heap[k]?) (e2 : w'.heap[rb]? = w.heap[rb]?) : Rd w' tb rb s pos := by
  obtain ⟨c, hc, h⟩ := h; exact ⟨c, hc, h.over e1 e2⟩
theorem Rd.grow {w w' : World} {tb : Src} {rb : Nat} {s : ByteArray} {pos : Nat} (h : Rd w tb rb s pos) (e : ∀ k, k < w.heap.size → w'.heap[k]? = w.heap[k]?) : Rd w' tb rb s pos := by
  obtain ⟨c, hc, h⟩ := h; exact ⟨c, hc, h.grow e⟩
theorem Rd.alloc {w : World} {tb : Src} {rb : Nat} {s : ByteArray} {pos : Nat} (h : Rd w tb rb s pos) (o : Obj) : Rd (w.alloc o) tb rb s pos := by
  obtain ⟨c, hc, h⟩ := h; exact ⟨c, hc, h.alloc o⟩
theorem Rd.lts {w : World} {tb : Src} {rb : Nat} {s : ByteArray} {pos : Nat} (h : Rd w tb rb s pos) : (∀ k, tb.F k ∨ k < tb.base → k < w.heap.size) ∧ rb < w.heap.size ∧ tb.base ≤ rb ∧ tb.base ≤ w.heap.size := h.rdE.lts
theorem Rd.no {w : World} {tb : Src} {rb : Nat} {s : ByteArray} {pos : Nat} (h : Rd w tb rb s pos) : ¬ tb.F rb := h.rdE.no
theorem Rd.types {w : World} {tb : Src} {rb : Nat} {s : ByteArray} {pos : Nat} (h : Rd w tb rb s pos) {k : Nat} {cur : Array Value} {T : TypeId} {f : Nat × Nat} (hk : w.heap[k]? = some (.cells cur T f)) (h1 : srcT T = false) (h2 : T ≠ 180) : ¬ tb.F k ∧ k ≠ rb := by
  obtain ⟨c, hc, t, _, _, _, h4, h5, h6⟩ := h
  exact ⟨h5.ne (h5.ke h4) hk h1, fun e => by rw [e, h6] at hk; cases hk; exact h2 rfl⟩
theorem Rd.new {w : World} {tb : Src} {rb : Nat} {s : ByteArray} {pos : Nat} (h : Rd w tb rb s pos) {k : Nat} (hk : w.heap.size ≤ k) : tb.base ≤ k ∧ ¬ tb.F k ∧ k ≠ rb :=
  ⟨by have := h.lts; omega, fun e => by have := h.lts.1 k (.inl e); omega, by have := h.lts; omega⟩
theorem Rd.setNew {w : World} {tb : Src} {rb : Nat} {s : ByteArray} {pos : Nat} (h : Rd w tb rb s pos) (b o : Nat) (x : Value) (h0 : tb.base ≤ b) (h1 : ¬ tb.F b) (h2 : b ≠ rb) : Rd (w.setCell ⟨b, o, none⟩ x) tb rb s pos := by
  obtain ⟨c, hc, h⟩ := h; exact ⟨c, hc, h.setNew b o x h0 h1 h2⟩
theorem Rd.end_le {w : World} {tb : Src} {rb : Nat} {s : ByteArray} {pos : Nat} (h : Rd w tb rb s pos) : pos ≤ 8 * s.size := by
  obtain ⟨c, hc, t, h1, h2, _⟩ := h; omega
end Go.Proofs.YtephkcdbnogdhaaGreatDoor.Pr
/- The program's row of bits: the walks of Bit, Number, Align, Taken, Position. -/
set_option linter.unusedVariables false
namespace Go.Proofs.YtephkcdbnogdhaaGreatDoor.Pr
open Go.RowKit Rf
theorem ret_int {k : IntKind} {a b : Int} (h : a = b) : Ending.returned (.int k a) = .returned (.int k b) := by rw [h]
theorem ret_iv {k : IntKind} {a b : Int} {y : Value} (h : a = b) : Ending.returned (.tuple #[.int k a, y]) = .returned (.tuple #[.int k b, y]) := by rw [h]
theorem and_one (v : Nat) (h : v < 4294967296) : bits BinOp.and IntKind.u32 (v : Int) 1 = ((v % 2 : Nat) : Int) := by
  have e := u32_and_nat v 1 h (by omega)
  have e2 : v &&& 1 = v % 2 := Nat.and_one_is_mod v
  rw [e2] at e
  exact e
/-- the cells of a reader -/
theorem RdG.cells {w : World} {tb : Src} {rb : Nat} {s : ByteArray} {pos c : Nat} (h : RdG w tb rb s pos c) (hc : c ≤ 23) : ∃ v t q : Nat, v = bitsV s pos c ∧ v < 8388608 ∧ pos + c = 8 * t ∧ t ≤ s.size ∧ q = t + tb.z ∧ tb.z ≤ 16 ∧
    w.cell? ⟨rb, 1, none⟩ = some (.int .u32 (v : Int)) ∧ w.cell? ⟨rb, 2, none⟩ = some (.int .u64 (c : Int)) ∧ w.cell? ⟨rb, 3, none⟩ = some (.int .i64 (q : Int)) ∧ (∀ o, w.frozen? ⟨rb, o, none⟩ = false) := by
  obtain ⟨t, h1, h2, h3, h4, h5, h6⟩ := h
  refine ⟨_, t, _, rfl, Nat.lt_of_lt_of_le (bitsV_lt s pos c) (show 2 ^ c ≤ 2 ^ 23 from Nat.pow_le_pow_right (by omega) hc), h1, h2, rfl, h5.few, ?_, ?_, ?_, fun o => (cell_of h6 o).2⟩
  · simpa using (cell_of h6 1).1
  · simpa using (cell_of h6 2).1
  · simpa using (cell_of h6 3).1
/-- what reading n of the c bits that are held leaves -/
theorem RdG.read {w : World} {tb : Src} {rb : Nat} {s : ByteArray} {pos c : Nat} (h : RdG w tb rb s pos c) (n : Nat) (hn : n ≤ c) (x k : Int) (hx : x = ((bitsV s (pos + n) (c - n) : Nat) : Int)) (hk : k = ((c - n : Nat) : Int)) :
    RdG ((w.setCell ⟨rb, 1, none⟩ (.int .u32 x)).setCell ⟨rb, 2, none⟩ (.int .u64 k)) tb rb s (pos + n) (c - n) ∧ RF tb rb w ((w.setCell ⟨rb, 1, none⟩ (.int .u32 x)).setCell ⟨rb, 2, none⟩ (.int .u64 k)) := by
  have hno := h.no
  obtain ⟨t, h1, h2, h3, h4, h5, h6⟩ := h
  refine ⟨⟨t, by omega, h2, h3, h5.stable h4 (fun j hj => ?_), h5, ?_⟩, ?_⟩
  · have hj' : j ≠ rb := fun e => hj.elim (fun hj => hno (e ▸ hj)) (fun hj => by omega)
    exact (set_other 2 _ hj').trans (set_other 1 _ hj')
  · refine (set_of (set_of h6 1 _) 2 _).trans ?_
    rw [hx, hk]
    simp
  · exact ((RF.refl tb rb w).set 1 _).set 2 _
set_option maxRecDepth 10000 in
set_option maxHeartbeats 2000000 in
theorem bit_any (tb : Src) (rb : Nat) (s : ByteArray) (pos : Nat) (w : World) (h : Rd w tb rb s pos) (hs : s.size ≤ 140737488354000) :
    Calls Tryz.prog 132 #[.pointer (some ⟨rb, 0, none⟩)] w fun e w' =>
      ((oneT s ⟨pos, false⟩).2.bad = false ∧ pos < 8 * s.size ∧ e = .returned (.tuple #[.int .i64 ((bitsV s pos 1 : Nat) : Int), .nilIface]) ∧ Rd w' tb rb s (pos + 1) ∧ RF tb rb w w') ∨
      ((∃ T a, e = .returned (.tuple #[.int .i64 0, .iface T (.pointer (some a))]) ∧ Why tb w' T a ((oneT s ⟨pos, false⟩).2.bad = true)) ∧ RdE w' tb rb s ∧ RF tb rb w w') := by
  obtain ⟨c, hc, h⟩ := h
  obtain ⟨v, t, q, hv, hvl, h1, h2, hq, hz, d1, d2, d3, hfr⟩ := h.cells (by omega)
  have HV : Hid (v = bitsV s pos c) := hv
  have H1 : Hid (pos + c = 8 * t) := h1
  clear hv h1 hq hz
  by_cases h0 : c = 0
  · subst h0
    have d20 : decide ((0 : Int) = 0) = true := by simp
    go_enter Tryz.func132, Tryz.ntmps132
    go_wp2_with fail
    refine (take_any tb rb s pos 0 _ h (by omega) hs).mono ?_
    rintro e w1 (⟨hlt, rfl, k1, k2⟩ | ⟨⟨T, a, rfl, k0⟩, k1, k2⟩)
    · clear HV H1 hvl d1 d2 d3 hfr
      obtain ⟨v1, t1, q1, hv1, hvl1, hh1, hh2, hq1, hz1, d1, d2, d3, hfr⟩ := k1.cells (by omega)
      have HV : Hid (v1 = bitsV s pos (0 + 8)) := hv1
      have f1 := hfr 1
      have f2 := hfr 2
      clear hv1 hh1 hfr hq1 hz1
      obtain ⟨b, hb⟩ : ∃ b, b = v1 % 2 := ⟨_, rfl⟩
      have hand : bits BinOp.and IntKind.u32 (v1 : Int) 1 = (b : Int) := by rw [hb]; exact and_one v1 (by omega)
      have hb2 : b ≤ 1 := by omega
      have HB : Hid (b = bitsV s pos 1) := (by rw [hb, HV.out]; exact bitsV_mod s pos 1 8 (by omega) : _ = _)
      have HD : Hid (v1 / 2 = bitsV s (pos + 1) 7) := (by rw [HV.out]; exact bitsV_div s pos 1 8 (by omega) : _ = _)
      clear hb
      go_wp2_with fail
      go_ret2
      have R := k1.read 1 (by omega) ((v1 : Int) / 2) 7 (by rw [show (0 + 8 - 1 : Nat) = 7 from rfl, ← HD.out]; omega) rfl
      exact .inl ⟨by rw [oneT_ok s pos (by omega)], by omega, ret_iv (congrArg Nat.cast HB.out), ⟨_, by omega, R.1⟩, k2.trans R.2⟩
    · clear HV H1 hvl d1 d2 d3 hfr
      go_wp2_with fail
      go_ret2
      exact .inr ⟨⟨T, a, rfl, k0.imp (fun hn => oneT_short s pos (by omega))⟩, k1, k2⟩
  · have hcn : decide ((c : Int) = 0) = false := by simp; omega
    have hlt : pos < 8 * s.size := by have := H1.out; omega
    have f1 := hfr 1
    have f2 := hfr 2
    clear hfr
    obtain ⟨b, hb⟩ : ∃ b, b = v % 2 := ⟨_, rfl⟩
    have hand : bits BinOp.and IntKind.u32 (v : Int) 1 = (b : Int) := by rw [hb]; exact and_one v (by omega)
    have hb2 : b ≤ 1 := by omega
    have hc1 : 1 ≤ c := by omega
    have HB : Hid (b = bitsV s pos 1) := (by rw [hb, HV.out]; exact bitsV_mod s pos 1 c (by omega) : _ = _)
    have HD : Hid (v / 2 = bitsV s (pos + 1) (c - 1)) := (by rw [HV.out]; exact bitsV_div s pos 1 c (by omega) : _ = _)
    clear hb
    go_enter Tryz.func132, Tryz.ntmps132
    go_wp2_with fail
    go_ret2
    have R := h.read 1 (by omega) ((v : Int) / 2) ((c : Int) - 1) (by rw [← HD.out]; omega) (by omega)
    exact .inl ⟨by rw [oneT_ok s pos (by omega)], by omega, ret_iv (congrArg Nat.cast HB.out), ⟨_, by omega, R.1⟩, R.2⟩
/-- how many bits are held, as memory has it -/
def heldIn (w : World) (rb : Nat) : Nat := match w.cell? ⟨rb, 2, none⟩ with
  | some (.int _ n) => n.toNat
  | _ => 0
theorem heldIn_of {w : World} {tb : Src} {rb : Nat} {s : ByteArray} {pos c : Nat} (h : RdG w tb rb s pos c) : heldIn w rb = c := by
  obtain ⟨t, h1, h2, h3, h4, h5, h6⟩ := h
  have d2 : w.cell? ⟨rb, 2, none⟩ = some (.int .u64 (c : Int)) := by simpa using (cell_of h6 2).1
  unfold heldIn
  rw [d2]; simp
/-- the lowest n of k bits that are held, and the others -/
theorem low_bits (s : ByteArray) (pos n k v : Nat) (hk : n ≤ k) (hn : n ≤ 16) (hvl : v < 8388608) (hv : v = bitsV s pos k) : ∃ b d : Nat, b = bitsV s pos n ∧ d = bitsV s (pos + n) (k - n) ∧ b ≤ 65535 ∧
    bits BinOp.and IntKind.u32 (v : Int) ((2 ^ n - 1) % 4294967296) = (b : Int) ∧ (v : Int) / 2 ^ n = (d : Int) := by
  have hp : 2 ^ n ≤ 2 ^ 16 := Nat.pow_le_pow_right (by omega) hn
  have hp1 : 1 ≤ 2 ^ n := Nat.two_pow_pos n
  refine ⟨v % 2 ^ n, v / 2 ^ n, by rw [hv]; exact bitsV_mod s pos n k hk, by rw [hv]; exact bitsV_div s pos n k hk, ?_, ?_, ?_⟩
  · have := Nat.mod_lt v hp1; omega
  · have e1 : ((2 : Int) ^ n - 1) % 4294967296 = ((2 ^ n - 1 : Nat) : Int) := by
      have : (2 : Int) ^ n = ((2 ^ n : Nat) : Int) := by simp
      rw [this]; omega
    rw [e1, u32_and_nat v (2 ^ n - 1) (by omega) (by omega)]
    congr 1
    exact Nat.and_two_pow_sub_one_eq_mod v n
  · simp
set_option maxRecDepth 10000 in
set_option maxHeartbeats 2000000 in
theorem number_any (tb : Src) (rb : Nat) (s : ByteArray) (pos n : Nat) (w : World) (h : Rd w tb rb s pos) (hs : s.size ≤ 140737488354000) (hn : n ≤ 16) :
    Calls Tryz.prog 133 #[.pointer (some ⟨rb, 0, none⟩), .int .u64 (n : Int)] w fun e w' =>
      ((numT s n ⟨pos, false⟩).2.bad = false ∧ pos + n ≤ 8 * s.size ∧ e = .returned (.tuple #[.int .i64 ((bitsV s pos n : Nat) : Int), .nilIface]) ∧ Rd w' tb rb s (pos + n) ∧ RF tb rb w w') ∨
      ((∃ T a, e = .returned (.tuple #[.int .i64 0, .iface T (.pointer (some a))]) ∧ Why tb w' T a ((numT s n ⟨pos, false⟩).2.bad = true)) ∧ RdE w' tb rb s ∧ RF tb rb w w') := by
  obtain ⟨c, hc, h⟩ := h
  go_enter Tryz.func133, Tryz.ntmps133
  go_wp2_with fail
  go_loopw [6] (fun x wr => ∃ k : Nat, RdG wr tb rb s pos k ∧ (k < 8 ∨ k < n + 8) ∧ RF tb rb w wr) (fun _ wr => 24 - heldIn wr rb)
  case atStart => exact ⟨c, h, .inl hc, RF.refl _ _ _⟩
  case round =>
    obtain ⟨k, hk, hk2, hk3⟩ := hrel
    have hk8 : k ≤ 23 := by omega
    have HH : Hid (heldIn wr rb = k) := heldIn_of hk
    obtain ⟨v, t, q, hv, hvl, h1, h2, hq, hz, d1, d2, d3, hfr⟩ := hk.cells hk8
    have HV : Hid (v = bitsV s pos k) := hv
    have H1 : Hid (pos + k = 8 * t) := h1
    clear hv h1 hq hz
    by_cases hkn : k < n
    · have hpl : pos ≤ 8 * s.size := by have := H1.out; omega
      go_wp2_with fail
      refine (take_any tb rb s pos k _ hk (by omega) hs).mono ?_
      rintro e w1 (⟨hlt, rfl, k1, k2⟩ | ⟨⟨T, a, rfl, k0⟩, k1, k2⟩)
      · clear HV H1 hvl d1 d2 d3 hfr
        have H2 : Hid (heldIn w1 rb = k + 8) := heldIn_of k1
        go_wp2_with fail
        go_roundw
        case rel => exact ⟨k + 8, k1, .inr (by omega), hk3.trans k2⟩
        case measure => rw [HH.out, H2.out]; omega
      · clear HV H1 hvl d1 d2 d3 hfr
        go_wp2_with fail
        go_ret2
        exact .inr ⟨⟨T, a, rfl, k0.imp (fun hno => numT_short s n pos hpl (by omega))⟩, k1, hk3.trans k2⟩
    · have f1 := hfr 1
      have f2 := hfr 2
      have hpn : pos + n ≤ 8 * s.size := by have := H1.out; omega
      clear hfr
      obtain ⟨b, d, hb, hd, hb2, hand, hdiv⟩ := low_bits s pos n k v (by omega) hn hvl HV.out
      have HB : Hid (b = bitsV s pos n) := hb
      have HD : Hid (d = bitsV s (pos + n) (k - n)) := hd
      clear hb hd
      go_wp2_with fail
      go_ret2
      have R := hk.read n (by omega) (d : Int) ((k : Int) - (n : Int)) (by rw [HD.out]) (by omega)
      exact .inl ⟨by rw [numT_ok s n pos hpn], hpn, ret_iv (congrArg Nat.cast HB.out), ⟨_, by omega, R.1⟩, hk3.trans R.2⟩
/-- how Number ends, in one -/
def NumR (tb : Src) (rb : Nat) (s : ByteArray) (pos n : Nat) (w : World) (x : Int) (v : Value) (w' : World) : Prop :=
  (pos + n ≤ 8 * s.size ∧ x = ((bitsV s pos n : Nat) : Int) ∧ v = .nilIface ∧ Rd w' tb rb s (pos + n) ∧ RF tb rb w w') ∨
  (x = 0 ∧ (∃ T a, v = .iface T (.pointer (some a)) ∧ Why tb w' T a ((numT s n ⟨pos, false⟩).2.bad = true)) ∧ RdE w' tb rb s ∧ RF tb rb w w')
theorem number_one (tb : Src) (rb : Nat) (s : ByteArray) (pos n : Nat) (w : World) (h : Rd w tb rb s pos) (hs : s.size ≤ 140737488354000) (hn : n ≤ 16) :
    Calls Tryz.prog 133 #[.pointer (some ⟨rb, 0, none⟩), .int .u64 (n : Int)] w fun e w' => ∃ x v, e = .returned (.tuple #[.int .i64 x, v]) ∧ NumR tb rb s pos n w x v w' := by
  refine (number_any tb rb s pos n w h hs hn).mono ?_
  rintro e w' (⟨k1, k2, rfl, k4, k5⟩ | ⟨⟨T, a, rfl, k2⟩, k3, k4⟩)
  · exact ⟨_, _, rfl, .inl ⟨k2, rfl, rfl, k4, k5⟩⟩
  · exact ⟨_, _, rfl, .inr ⟨rfl, ⟨T, a, rfl, k2⟩, k3, k4⟩⟩
set_option maxRecDepth 10000 in
set_option maxHeartbeats 2000000 in
theorem align_any (tb : Src) (rb : Nat) (s : ByteArray) (pos : Nat) (w : World) (h : Rd w tb rb s pos) :
    Calls Tryz.prog 144 #[.pointer (some ⟨rb, 0, none⟩)] w fun e w' => e = .returned (.tuple #[]) ∧ Rd w' tb rb s ((pos + 7) / 8 * 8) ∧ RF tb rb w w' := by
  obtain ⟨c, hc, h⟩ := h
  obtain ⟨v, t, q, hv, hvl, h1, h2, hq, hz, d1, d2, d3, hfr⟩ := h.cells (by omega)
  have f1 := hfr 1
  have f2 := hfr 2
  have H1 : Hid (pos + c = 8 * t) := h1
  clear hfr hv h1 hq hz
  go_enter Tryz.func144, Tryz.ntmps144
  go_wp2_with fail
  go_end0
  have e8 : (pos + 7) / 8 * 8 = pos + c := by have := H1.out; omega
  rw [e8]
  have R := h.read c (Nat.le_refl _) 0 0 (by rw [Nat.sub_self]; rfl) (by rw [Nat.sub_self]; rfl)
  exact ⟨rfl, ⟨_, by omega, R.1⟩, R.2⟩
set_option maxRecDepth 10000 in
set_option maxHeartbeats 2000000 in
theorem taken_any (tb : Src) (rb : Nat) (s : ByteArray) (pos : Nat) (w : World) (h : Rd w tb rb s pos) :
    Calls Tryz.prog 74 #[.pointer (some ⟨rb, 0, none⟩)] w fun e w' => e = .returned (.int .i64 (((pos + 7) / 8 + tb.z : Nat) : Int)) ∧ w' = w := by
  obtain ⟨c, hc, h⟩ := h
  obtain ⟨v, t, q, hv, hvl, h1, h2, hq, hz, d1, d2, d3, hfr⟩ := h.cells (by omega)
  have H8 : Hid (q = (pos + 7) / 8 + tb.z) := (by omega : _ = _)
  clear hfr hv h1 hq hz
  go_enter Tryz.func74, Tryz.ntmps74
  go_wp2_with fail
  go_ret
  exact ⟨ret_int (congrArg Nat.cast H8.out), rfl⟩
set_option maxRecDepth 10000 in
set_option maxHeartbeats 2000000 in
theorem taken_err (tb : Src) (rb : Nat) (s : ByteArray) (w : World) (h : RdE w tb rb s) :
    Calls Tryz.prog 74 #[.pointer (some ⟨rb, 0, none⟩)] w fun e w' => (∃ n : Int, e = .returned (.int .i64 n)) ∧ w' = w := by
  obtain ⟨c, t, v, h1, h2, h3, h4, h5, h6⟩ := h
  have d3 : w.cell? ⟨rb, 3, none⟩ = some (.int .i64 (t : Int)) := by simpa using (cell_of h6 3).1
  go_enter Tryz.func74, Tryz.ntmps74
  go_wp2_with fail
  go_ret
  exact ⟨⟨_, rfl⟩, rfl⟩
set_option maxRecDepth 10000 in
set_option maxHeartbeats 2000000 in
theorem position_any (tb : Src) (rb : Nat) (s : ByteArray) (w : World) (h : RdE w tb rb s) (hs : s.size ≤ 140737488354000) :
    Calls Tryz.prog 106 #[.pointer (some ⟨rb, 0, none⟩)] w fun e w' => (∃ n : Int, e = .returned (.int .i64 n)) ∧ ∃ n, w' = w.drewN n := by
  obtain ⟨c, t, v, hc, h2, h3, h4, h5, h6⟩ := h
  have d2 : w.cell? ⟨rb, 2, none⟩ = some (.int .u64 (c : Int)) := by simpa using (cell_of h6 2).1
  have d3 : w.cell? ⟨rb, 3, none⟩ = some (.int .i64 (t : Int)) := by simpa using (cell_of h6 3).1
  go_enter Tryz.func106, Tryz.ntmps106
  go_wp2_with fail
  go_quiet (fail)
  go_wp2_with fail
  go_ret
  exact ⟨⟨_, rfl⟩, _, rfl⟩
end Go.Proofs.YtephkcdbnogdhaaGreatDoor.Pr
/- A text as a source of bytes; a source behind its first bytes. -/
set_option linter.unusedVariables false
namespace Go.Proofs.YtephkcdbnogdhaaGreatDoor.Er
open Go.RowKit Go.Extern.Stop Go.Stop Go.Extern
set_option maxRecDepth 100000 in
/-- errors.Is of nil. -/
theorem is_nil (a : Addr) (w : World) :
    Calls Tryz.prog 76 #[.nilIface, .iface 362 (.pointer (some a))] w fun e w' => e = .returned (.bool false) ∧ w' = w := by
  have heq := run_eql_iface_nil_left (P := Tryz.prog) w 362 (.pointer (some a)) Tryz.underlying80
  go_enter Tryz.func76, Tryz.ntmps76
  go_wp2
  go_ret
  exact ⟨rfl, rfl⟩
end Go.Proofs.YtephkcdbnogdhaaGreatDoor.Er
namespace Go.Proofs.YtephkcdbnogdhaaGreatDoor.Pr
open Go.RowKit Rf
theorem methodNext (v : Value) (w : World) : (Go.method 494 83 v "NextByte").run Tryz.prog w = .ok (260, v) w := by kernel_rfl
theorem empty_no (m : ByteArray) (h : 0 < m.size) : m.toList.isEmpty = false := by
  rw [ByteArray.toList_eq, List.isEmpty_eq_false_iff]
  intro e
  have h1 := congrArg List.length e
  rw [Array.length_toList] at h1
  have h2 : m.data.size = m.size := rfl
  rw [h2] at h1
  simp only [List.length_nil] at h1
  omega
theorem empty_yes (m : ByteArray) (h : m.size = 0) : m.toList.isEmpty = true := by
  rw [ByteArray.toList_eq, List.isEmpty_iff]
  exact List.eq_nil_of_length_eq_zero (by rw [Array.length_toList]; exact h)
set_option maxRecDepth 10000 in
set_option maxHeartbeats 2000000 in
theorem next_ok (tb : Nat) (m : ByteArray) (T : TypeId) (w : World) (h : w.heap[tb]? = some (.cells #[.string m] T (0, 0))) (h0 : 0 < m.size) :
    Calls Tryz.prog 260 #[.pointer (some ⟨tb, 0, none⟩)] w fun e w' => e = .returned (.tuple #[.int .u8 ((m[0].toNat : Nat) : Int), .nilIface]) ∧ w' = w.setCell ⟨tb, 0, none⟩ (.string (m.extract 1 m.size)) := by
  have c0 : w.cell? ⟨tb, 0, none⟩ = some (.string m) := by simpa using (cell_of h 0).1
  have f0 := (cell_of h 0).2
  have hE := empty_no m h0
  go_enter Tryz.func260, Tryz.ntmps260
  go_wp2
  go_ret2
  exact ⟨rfl, rfl⟩
/-- fault.End as the program's text lays it -/
def EndIs (w : World) (eb : Addr) : Prop := w.cell? ⟨2, 0, none⟩ = some (.iface 362 (.pointer (some eb)))
theorem EndIs.over {w w' : World} {eb : Addr} (h : EndIs w eb) (e : w'.heap[2]? = w.heap[2]?) : EndIs w' eb := by
  unfold EndIs World.cell? at *
  rw [e]; exact h
theorem EndIs.alloc {w : World} {eb : Addr} (h : EndIs w eb) (o : Obj) : EndIs (w.alloc o) eb := Er.cell_alloc h o
set_option maxRecDepth 10000 in
set_option maxHeartbeats 2000000 in
theorem next_end (tb : Nat) (eb : Addr) (m : ByteArray) (T : TypeId) (w : World) (h : w.heap[tb]? = some (.cells #[.string m] T (0, 0))) (h0 : m.size = 0) (hend : EndIs w eb) :
    Calls Tryz.prog 260 #[.pointer (some ⟨tb, 0, none⟩)] w fun e w' => e = .returned (.tuple #[.int .u8 0, .iface 362 (.pointer (some eb))]) ∧ ∃ n, w' = w.drewN n := by
  have c0 : w.cell? ⟨tb, 0, none⟩ = some (.string m) := by simpa using (cell_of h 0).1
  have f0 := (cell_of h 0).2
  have hE := empty_yes m h0
  unfold EndIs at hend
  go_enter Tryz.func260, Tryz.ntmps260
  go_wp2
  go_quiet (fail)
  go_wp2
  go_ret2
  exact ⟨rfl, _, rfl⟩
/-- a text that lies in block tb -/
def srcTx (tb base : Nat) (eb : Addr) : Src where
  T := 83
  a := ⟨tb, 0, none⟩
  base := base
  F := fun k => k = tb
  z := 0
  K := fun w s t => t ≤ s.size ∧ w.heap[tb]? = some (.cells #[.string (s.extract t s.size)] 141 (0, 0)) ∧ EndIs w eb
  KE := fun w => ∃ m, w.heap[tb]? = some (.cells #[.string m] 141 (0, 0))
  mayFail := False
  fb := eb
set_option maxRecDepth 10000 in
set_option maxHeartbeats 2000000 in
theorem need_text (tb : Nat) (eb : Addr) (s : ByteArray) (t : Nat) (w : World) (h2 : t < s.size) (h : w.heap[tb]? = some (.cells #[.string (s.extract t s.size)] 141 (0, 0))) (hend : EndIs w eb) (hg : 2 ≠ tb) :
    Calls Tryz.prog 193 #[.iface 83 (.pointer (some ⟨tb, 0, none⟩))] w fun e w' =>
      e = .returned (.tuple #[.int .u8 ((byteAt s t : Nat) : Int), .nilIface]) ∧ w' = w.setCell ⟨tb, 0, none⟩ (.string (s.extract (t + 1) s.size)) := by
  have hm := methodNext
  obtain ⟨m, hm1⟩ : ∃ m, m = s.extract t s.size := ⟨_, rfl⟩
  rw [← hm1] at h
  have hm0 : 0 < m.size := by rw [hm1, rest_size]; omega
  have HB : Hid (((m[0]).toNat : Nat) = byteAt s t) := (by subst hm1; exact rest_first s t h2 hm0 : _ = _)
  have HM : Hid (m.extract 1 m.size = s.extract (t + 1) s.size) := (by rw [hm1]; exact rest_more s t h2 : _ = _)
  clear hm1
  go_enter Tryz.func193, Tryz.ntmps193
  go_wp2_with fail
  refine (next_ok tb m _ _ h hm0).mono ?_
  rintro e w1 ⟨rfl, hw1⟩
  have hend1 : EndIs w1 eb := by rw [hw1]; exact hend.over (set_other 0 _ hg)
  have HW : Hid _ := hw1
  clear hw1
  unfold EndIs at hend1
  go_wp2_with fail
  refine (Er.is_nil _ _).mono ?_
  rintro e w2 ⟨rfl, rfl⟩
  go_wp2_with fail
  go_ret2
  exact ⟨ret_iv (congrArg Nat.cast HB.out), by rw [HW.out, HM.out]⟩
set_option maxRecDepth 10000 in
set_option maxHeartbeats 2000000 in
theorem need_text_end (tb : Nat) (eb : Addr) (m : ByteArray) (w : World) (h : w.heap[tb]? = some (.cells #[.string m] 141 (0, 0))) (h0 : m.size = 0) (hend : EndIs w eb) :
    Calls Tryz.prog 193 #[.iface 83 (.pointer (some ⟨tb, 0, none⟩))] w fun e w' =>
      (∃ a, e = .returned (.tuple #[.int .u8 0, .iface 142 (.pointer (some a))])) ∧ Below w.heap.size w w' := by
  have hm := methodNext
  go_enter Tryz.func193, Tryz.ntmps193
  go_wp2_with fail
  refine (next_end tb eb _ _ _ h h0 hend).mono ?_
  rintro e w1 ⟨rfl, n, hw1⟩
  have hend1 : EndIs w1 eb := by rw [hw1]; exact hend
  have HW : Hid (Below w.heap.size w w1) := (by rw [hw1]; exact ⟨rfl, rfl, rfl, Nat.le_refl _, fun _ _ => rfl⟩ : Below _ _ _)
  clear hw1
  unfold EndIs at hend1
  go_wp2_with fail
  refine (Er.is_same _ _).mono ?_
  rintro e w2 ⟨rfl, rfl⟩
  go_wp2_with fail
  refine (mal_any _ _).mono ?_
  rintro e w3 ⟨rfl, rfl⟩
  go_wp2_with fail
  go_ret2
  exact ⟨⟨_, rfl⟩, HW.out.alloc HW.out.size _⟩
theorem srcTx_ok (tb base : Nat) (eb : Addr) (h1 : 7 ≤ base) (h2 : base ≤ tb) : (srcTx tb base eb).Ok where
  ng := h1
  few := Nat.zero_le _
  low := fun k hk => by subst hk; exact h2
  ke := fun ⟨_, h, _⟩ => ⟨_, h⟩
  typ := fun ⟨m, h⟩ hk => by subst hk; exact ⟨_, _, _, h, by decide⟩
  stable := fun ⟨a, b, c⟩ e => ⟨a, (e tb (.inl rfl)).trans b, c.over (e _ (.inr (show 2 < base by omega)))⟩
  stableE := fun ⟨m, h⟩ e => ⟨m, (e tb (.inl rfl)).trans h⟩
  hb := fun ⟨m, h⟩ => by have := lt_of_some h; show base ≤ _; omega
  need := fun w s t ⟨a, b, c⟩ ht => by
    refine (need_text tb eb s t w ht b c (by omega)).mono ?_
    rintro e w' ⟨rfl, rfl⟩
    exact .inl ⟨rfl, ⟨by omega, (set_of b 0 _).trans (by simp), c.over (set_other 0 _ (by omega))⟩, (Fr.refl (srcTx tb base eb).F w).set tb 0 (show tb = tb from rfl) _⟩
  needEnd := fun w s ⟨a, b, c⟩ => by
    refine (need_text_end tb eb _ w b (by rw [rest_size]; omega) c).mono ?_
    rintro e w' ⟨⟨m, rfl⟩, hb⟩
    exact ⟨_, _, _, rfl, Why.mal trivial, ⟨_, (hb.block tb (lt_of_some b)).trans b⟩, Fr.of_below hb⟩
theorem byteAt_extract (s : ByteArray) (n t : Nat) : byteAt (s.extract n s.size) t = byteAt s (n + t) := by
  have e : (s.extract n s.size).data.toList = s.data.toList.drop n := by
    rw [ByteArray.data_extract, Array.toList_extract, List.extract_eq_take_drop]
    have h1 : s.size = s.data.toList.length := by simp
    rw [h1, ← List.length_drop, List.take_length]
  unfold byteAt
  rw [e, List.getD_eq_getElem?_getD, List.getD_eq_getElem?_getD, List.getElem?_drop]
theorem bitsV_extract (s : ByteArray) (n p k : Nat) : bitsV (s.extract n s.size) p k = bitsV s (p + 8 * n) k := by
  induction k with
  | zero => rfl
  | succ k ih =>
    rw [bitsV, bitsV, ih]
    unfold bitP
    rw [byteAt_extract, show n + (p + k) / 8 = (p + 8 * n + k) / 8 by omega, show (p + k) % 8 = (p + 8 * n + k) % 8 by omega]
/-- a source behind the first n bytes of its row s -/
def Src.shift (S : Src) (n : Nat) (s : ByteArray) : Src := { S with z := S.z + n, K := fun w s' t => s' = s.extract n s.size ∧ n ≤ s.size ∧ S.K w s (n + t) }
theorem Src.shift_ok {S : Src} (n : Nat) (s : ByteArray) (hn : S.z + n ≤ 16) (h : S.Ok) : (S.shift n s).Ok where
  ng := h.ng
  few := hn
  low := h.low
  ke := fun ⟨_, _, k⟩ => h.ke k
  typ := h.typ
  stable := fun ⟨a, b, k⟩ e => ⟨a, b, h.stable k e⟩
  stableE := h.stableE
  hb := h.hb
  need := fun w s' t ⟨a, b, k⟩ ht => by
    subst a
    rw [rest_size] at ht
    refine (h.need w s (n + t) k (by omega)).mono ?_
    rintro e w' (⟨rfl, g1, g2⟩ | ⟨x, T, a, rfl, g1, g2, g3, g4⟩)
    · exact .inl ⟨by rw [byteAt_extract], ⟨rfl, b, g1⟩, g2⟩
    · exact .inr ⟨x, T, a, rfl, g1, g2, g3, g4⟩
  needEnd := fun w s' ⟨a, b, k⟩ => by
    subst a
    rw [rest_size, show n + (s.size - n) = s.size by omega] at k
    refine (h.needEnd w s k).mono ?_
    rintro e w' ⟨x, T, a, rfl, g1, g2, g3⟩
    exact ⟨x, T, a, rfl, g1, g2, g3⟩
/-- the reader behind whole bytes is one of the source behind them -/
theorem Rd.toShift {S : Src} {rb : Nat} {s : ByteArray} {w : World} (n : Nat) (hz : S.z + n ≤ 16) (hn : n ≤ s.size) (h : Rd w S rb s (8 * n)) : Rd w (S.shift n s) rb (s.extract n s.size) 0 := by
  obtain ⟨c, hc, t, h1, h2, h3, h4, h5, h6⟩ := h
  have hc0 : c = 0 := by omega
  subst hc0
  have ht : t = n := by omega
  subst ht
  refine ⟨0, by omega, 0, rfl, Nat.zero_le _, h3, ⟨rfl, hn, h4⟩, Src.shift_ok _ s hz h5, ?_⟩
  rw [h6]
  show _ = some (Obj.cells #[.iface S.T (.pointer (some S.a)), .int .u32 ((0 : Nat) : Int), .int .u64 ((0 : Nat) : Int), .int .i64 ((0 + (S.z + t) : Nat) : Int)] 180 (0, 0))
  rw [show 0 + (S.z + t) = t + S.z by omega]
  rfl
theorem Rd.ofShift {S : Src} {rb : Nat} {s : ByteArray} {w : World} {n p : Nat} (hS : S.Ok) (h : Rd w (S.shift n s) rb (s.extract n s.size) p) : Rd w S rb s (p + 8 * n) := by
  obtain ⟨c, hc, t, h1, h2, h3, ⟨_, k2, k3⟩, h5, h6⟩ := h
  rw [rest_size] at h2
  refine ⟨c, hc, n + t, by omega, by omega, h3, k3, hS, ?_⟩
  rw [h6, bitsV_extract]
  show some (Obj.cells #[.iface S.T (.pointer (some S.a)), .int .u32 ((bitsV s (p + 8 * n) c : Nat) : Int), .int .u64 (c : Int), .int .i64 ((t + (S.z + n) : Nat) : Int)] 180 (0, 0)) = _
  rw [show t + (S.z + n) = n + t + S.z by omega]
theorem RdE.ofShift {S : Src} {rb : Nat} {s : ByteArray} {w : World} {n : Nat} (hn : n ≤ s.size) (hS : S.Ok) (h : RdE w (S.shift n s) rb (s.extract n s.size)) : RdE w S rb s := by
  obtain ⟨c, t, v, h1, h2, h3, h4, h5, h6⟩ := h
  rw [rest_size] at h2
  exact ⟨c, t, v, h1, by omega, h3, h4, hS, h6⟩
theorem RF.ofShift {S : Src} {rb n : Nat} {s : ByteArray} {w w' : World} (h : RF (S.shift n s) rb w w') : RF S rb w w' := ⟨h.os, h.tape, h.output, h.size, h.block⟩
/-- what is asked of a source where nothing more may come: 'done': its row ends as it must -/
structure Src.EndOk (S : Src) (fe : FuncId) (done : ByteArray → Prop) (KD : World → Prop) : Prop where
  meth : ∀ v w, (Go.method 494 S.T v "NoMore").run Tryz.prog w = .ok (fe, v) w
  body : ∀ args w, (callFunc fe args).run Tryz.prog w = .ok (.enter fe args) w
  ok : ∀ (w : World) (s : ByteArray), S.K w s s.size → done s →
    Calls Tryz.prog fe #[.pointer (some S.a)] w fun e w' =>
      (e = .returned .nilIface ∧ KD w' ∧ S.KE w' ∧ Fr S.F w w') ∨ (∃ T a, e = .returned (.iface T (.pointer (some a))) ∧ IsFld S.fb w' T a ∧ S.mayFail ∧ S.KE w' ∧ Fr S.F w w')
  bad : ∀ (w : World) (s : ByteArray) (t : Nat), S.K w s t → t < s.size ∨ (t = s.size ∧ ¬ done s) →
    Calls Tryz.prog fe #[.pointer (some S.a)] w fun e w' =>
      ∃ T a, e = .returned (.iface T (.pointer (some a))) ∧ Why S w' T a True ∧ S.KE w' ∧ Fr S.F w w'
set_option maxRecDepth 10000 in
set_option maxHeartbeats 2000000 in
theorem more_text (tb : Nat) (m : ByteArray) (w : World) (h : w.heap[tb]? = some (.cells #[.string m] 141 (0, 0))) (h0 : 0 < m.size) :
    Calls Tryz.prog 192 #[.iface 83 (.pointer (some ⟨tb, 0, none⟩))] w fun e w' =>
      (∃ a, e = .returned (.iface 142 (.pointer (some a)))) ∧ (∃ m', w'.heap[tb]? = some (.cells #[.string m'] 141 (0, 0))) ∧ Fr (fun k => k = tb) w w' := by
  have hm := methodNext
  go_enter Tryz.func192, Tryz.ntmps192
  go_wp2_with fail
  refine (next_ok tb m _ _ h h0).mono ?_
  rintro e w1 ⟨rfl, hw1⟩
  have HW : Hid (w1.heap[tb]? = some (.cells #[.string (m.extract 1 m.size)] 141 (0, 0)) ∧ Fr (fun k => k = tb) w w1) := (by rw [hw1]; exact ⟨(set_of h 0 _).trans (by simp), (Fr.refl (fun k => k = tb) w).set tb 0 (show tb = tb from rfl) _⟩ : _ ∧ _)
  clear hw1
  go_wp2_with fail
  refine (mal_any _ _).mono ?_
  rintro e w3 ⟨rfl, rfl⟩
  go_wp2_with fail
  go_ret
  exact ⟨⟨_, rfl⟩, ⟨_, (Below.heap_alloc _ _ _ (lt_of_some HW.out.1)).trans HW.out.1⟩, HW.out.2.alloc _⟩
set_option maxRecDepth 10000 in
set_option maxHeartbeats 2000000 in
theorem more_text_end (tb : Nat) (eb : Addr) (m : ByteArray) (w : World) (h : w.heap[tb]? = some (.cells #[.string m] 141 (0, 0))) (h0 : m.size = 0) (hend : EndIs w eb) :
    Calls Tryz.prog 192 #[.iface 83 (.pointer (some ⟨tb, 0, none⟩))] w fun e w' => e = .returned .nilIface ∧ ∃ n, w' = w.drewN n := by
  have hm := methodNext
  go_enter Tryz.func192, Tryz.ntmps192
  go_wp2_with fail
  refine (next_end tb eb _ _ _ h h0 hend).mono ?_
  rintro e w1 ⟨rfl, n, hw1⟩
  have hend1 : EndIs w1 eb := by rw [hw1]; exact hend
  have HW : Hid (w1 = w.drewN n) := hw1
  clear hw1
  unfold EndIs at hend1
  go_wp2_with fail
  refine (Er.is_same _ _).mono ?_
  rintro e w2 ⟨rfl, rfl⟩
  go_wp2_with fail
  go_ret
  exact ⟨rfl, n, HW.out⟩
set_option maxRecDepth 10000 in
set_option maxHeartbeats 2000000 in
theorem noMore_end (tb : Nat) (eb : Addr) (m : ByteArray) (w : World) (h : w.heap[tb]? = some (.cells #[.string m] 141 (0, 0))) (h0 : m.size = 0) (hend : EndIs w eb) :
    Calls Tryz.prog 261 #[.pointer (some ⟨tb, 0, none⟩)] w fun e w' => e = .returned .nilIface ∧ ∃ n, w' = w.drewN n := by
  go_enter Tryz.func261, Tryz.ntmps261
  go_wp2_with fail
  refine (more_text_end tb eb m _ h h0 hend).mono ?_
  rintro e w' ⟨rfl, n, hw⟩
  have HW : Hid _ := hw
  clear hw
  go_wp2_with fail
  go_ret
  exact ⟨rfl, n, HW.out⟩
set_option maxRecDepth 10000 in
set_option maxHeartbeats 2000000 in
theorem noMore_text (tb : Nat) (m : ByteArray) (w : World) (h : w.heap[tb]? = some (.cells #[.string m] 141 (0, 0))) (h0 : 0 < m.size) :
    Calls Tryz.prog 261 #[.pointer (some ⟨tb, 0, none⟩)] w fun e w' =>
      (∃ a, e = .returned (.iface 142 (.pointer (some a)))) ∧ (∃ m', w'.heap[tb]? = some (.cells #[.string m'] 141 (0, 0))) ∧ Fr (fun k => k = tb) w w' := by
  go_enter Tryz.func261, Tryz.ntmps261
  go_wp2_with fail
  refine (more_text tb m _ h h0).mono ?_
  rintro e w' ⟨⟨a, rfl⟩, k2, k3⟩
  have HW : Hid _ := k2
  clear k2
  go_wp2_with fail
  go_ret
  exact ⟨⟨a, rfl⟩, HW.out, k3⟩
theorem srcTx_end (tb base : Nat) (eb : Addr) : (srcTx tb base eb).EndOk 261 (fun _ => True) (fun _ => True) where
  meth := fun v w => by kernel_rfl
  body := fun args w => callBody Tryz.func261 (by kernel_rfl) (by kernel_rfl) args w
  ok := fun w s ⟨a, b, c⟩ _ => by
    refine (noMore_end tb eb _ w b (by rw [rest_size]; omega) c).mono ?_
    rintro e w' ⟨rfl, n, rfl⟩
    exact .inl ⟨rfl, trivial, ⟨_, b⟩, (Fr.refl _ w).drewN n⟩
  bad := fun w s t ⟨a, b, c⟩ h => by
    have ht : t < s.size := by
      rcases h with h | h
      · exact h
      · exact absurd trivial h.2
    refine (noMore_text tb _ w b (by rw [rest_size]; omega)).mono ?_
    rintro e w' ⟨⟨a, rfl⟩, ⟨m', k2⟩, k3⟩
    exact ⟨_, a, rfl, Why.mal trivial, ⟨m', k2⟩, k3⟩
end Go.Proofs.YtephkcdbnogdhaaGreatDoor.Pr
