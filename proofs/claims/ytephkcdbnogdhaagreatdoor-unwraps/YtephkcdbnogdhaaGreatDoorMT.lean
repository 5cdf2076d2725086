/- A sink that keeps the Adler sum of what goes through it (wrapped's closure); the walk of readHead. -/
import Derived.Test.YtephkcdbnogdhaaGreatDoorMG
import Derived.Test.YtephkcdbnogdhaaGreatDoorMM
import Derived.Test.YtephkcdbnogdhaaGreatDoorME
import Derived.Test.YtephkcdbnogdhaaGreatDoorMQ
import Derived.Test.YtephkcdbnogdhaaGreatDoorMS
set_option linter.unusedVariables false
namespace Go.Proofs.YtephkcdbnogdhaaGreatDoor.Pr
open Go.RowKit Rf
open AdW (one addT)
open Ad (adl adl_bd adl_snoc)
/-- a closure over two boxes that takes bytes -/
def cI (fn : FuncId) (p1 p2 : Addr) (K : World → List UInt8 → (Nat → Prop) → Prop) (stop : List UInt8 → Prop) : Inner :=
  ⟨.func (.func fn) #[] #[.pointer (some p1), .pointer (some p2)], fn, fun x => #[x, .pointer (some p1), .pointer (some p2)], K, stop⟩
set_option maxRecDepth 10000 in
set_option maxHeartbeats 4000000 in
theorem putCl (fn : FuncId) (p1 p2 : Addr) (K : World → List UInt8 → (Nat → Prop) → Prop) (stop : List UInt8 → Prop) (base : Nat) (hI : (cI fn p1 p2 K stop).Ok base) : PutOk (sinkI (cI fn p1 p2 K stop)) base := by
  intro A s win most u x w hA h hlt hm hw1 hw2
  subst hA
  obtain ⟨c0, c1, c2, c3⟩ := h.cells
  obtain ⟨vr, F, fx, h1, h2, h3, h4, h5, h6, h7, h8, h9, h10, h11, h12, h13, h14, h15⟩ := h
  have f2 := (cell_of h5 2).2
  obtain ⟨l, hl⟩ : ∃ l, l = most - u.out.length := ⟨_, rfl⟩
  rw [← hl] at c2 h5
  have hl1 : 1 ≤ l := by omega
  have hl2 : l ≤ 16777216 := by omega
  have HL : Hid (l = most - u.out.length) := hl
  clear hl c0 c3
  have hug : A.gb ≠ A.ub := ne_of_type h4.1 h5 (by decide)
  have hrow : vr.ownBlock ≠ some A.ub := row_ne h4.2.1 h5 (by decide)
  have g4 : RingAt (w.setCell ⟨A.ub, 2, none⟩ (.int .i64 ((l : Int) - 1))) A.gb A.base vr win u.out := ⟨(set_other 2 _ hug).trans h4.1, ownsRow_over h4.2.1 (fun k hk => set_other 2 _ (fun e => hrow (e ▸ hk))), by simpa using h4.2.2⟩
  go_enter Tryz.func170, Tryz.ntmps170
  go_wp2_with fail
  refine (add_any A.gb A.base vr win u.out x _ g4 hw1 hw2).mono ?_
  rintro e w2 ⟨rfl, vr', r1, r2, r3⟩
  obtain ⟨hM, hP⟩ := Mid.mk h1 h2 h4 h5 h6 h7 h8 h9 h10 h11 h12 h13 h14 h15 HL.out hlt r1 r2 r3
  clear h1 h2 h4 h5 h6 h7 h8 h9 h10 h11 h12 h13 h14 h15 r1 r2 r3 c1 c2 f2 g4 hug hrow
  obtain ⟨vr, F, fx, h1, h2, h3, h4, h5, h6, h7, h8, h9, h10, h11, h12, h13, h14, h15⟩ := hM
  have kc3 : w2.cell? ⟨A.ub, 4, none⟩ = some (.func (.func fn) #[] #[.pointer (some p1), .pointer (some p2)]) := by simpa [sinkI, cI] using (cell_of h5 4).1
  have hC := hI.call w2 u.out F x h7 (by omega) (fun k hk => (h8 k hk).1) (by have := h2.lts; omega)
  have hbd : ∀ args w, (callFunc fn args).run Tryz.prog w = .ok (.enter fn args) w := hI.body
  have hC' : Calls Tryz.prog fn #[.int .u8 ((x.toNat : Nat) : Int), .pointer (some p1), .pointer (some p2)] w2 _ := hC
  clear hC
  go_wp2_with fail
  refine hC'.mono ?_
  rintro e w3 (⟨rfl, F', b1, b2, b3⟩ | ⟨T, a, rfl, b0, b1, b2⟩)
  · obtain ⟨q1, q2, q3⟩ := Mid.fin (F' := F') h1 h2 h3 h4 h5 h6 h7 h8 h9 h10 h11 h12 h13 h14 h15 (hI.busy h7) b2
    go_wp2_with fail
    go_ret
    exact .inl ⟨rfl, q3 b1 b3, hP.trans q2⟩
  · obtain ⟨q1, q2, q3⟩ := Mid.fin (F' := F) h1 h2 h3 h4 h5 h6 h7 h8 h9 h10 h11 h12 h13 h14 h15 (hI.busy h7) b2
    go_wp2_with fail
    go_ret
    exact .inr ⟨⟨T, a, rfl, .inl ⟨b0, b1⟩⟩, q1, hP.trans q2⟩
/-- what wrapped's closure keeps: the sum in block sb, where the bytes go in block pb -/
def KC (ob : Nat) (fn : FuncId) (K : World → List UInt8 → (Nat → Prop) → Prop) (sb pb : Nat) (w : World) (out : List UInt8) (F : Nat → Prop) : Prop :=
  ∃ F0, K w out F0 ∧ (F = fun k => F0 k ∨ k = sb ∨ k = pb) ∧ w.heap[sb]? = some (.cells #[.int .u32 ((one (adl 1 0 out) : Nat) : Int)] 174 (0, 0)) ∧
    w.heap[pb]? = some (.cells #[.func (.func fn) #[.pointer (some ⟨ob, 0, none⟩)] #[]] 134 (0, 0)) ∧ ¬ F0 sb ∧ ¬ F0 pb ∧ sb ≠ pb
def innC (ob : Nat) (fn : FuncId) (K : World → List UInt8 → (Nat → Prop) → Prop) (stop : List UInt8 → Prop) (sb pb : Nat) : Inner :=
  cI 122 ⟨sb, 0, none⟩ ⟨pb, 0, none⟩ (KC ob fn K sb pb) stop
theorem one_snoc (out : List UInt8) (x : UInt8) : one (adl 1 0 (out ++ [x])) = addT (one (adl 1 0 out)) x.toNat := by
  have hb := adl_bd out 1 0 (by omega) (by omega)
  rw [adl_snoc]
  unfold addT
  rw [AdW.one_lo _ hb.1, AdW.one_hi _ hb.1]
  rfl
set_option maxRecDepth 10000 in
set_option maxHeartbeats 4000000 in
theorem closure_any (ob : Nat) (fn : FuncId) (K : World → List UInt8 → (Nat → Prop) → Prop) (stop : List UInt8 → Prop) (sb pb base : Nat) (hI : (mI ob fn K stop).Ok base) (w : World) (out : List UInt8) (F0 : Nat → Prop) (x : UInt8) (hK : K w out F0) (hl : out.length < 16777216) (hF : ∀ k, F0 k → base ≤ k) (hsb : base ≤ sb) (hb : base ≤ w.heap.size)
    (h1 : w.heap[sb]? = some (.cells #[.int .u32 ((one (adl 1 0 out) : Nat) : Int)] 174 (0, 0))) (h2 : w.heap[pb]? = some (.cells #[.func (.func fn) #[.pointer (some ⟨ob, 0, none⟩)] #[]] 134 (0, 0))) (h3 : ¬ F0 sb) (h4 : ¬ F0 pb) (h5 : sb ≠ pb) :
    Calls Tryz.prog 122 #[.int .u8 ((x.toNat : Nat) : Int), .pointer (some ⟨sb, 0, none⟩), .pointer (some ⟨pb, 0, none⟩)] w fun e w' =>
      (e = .returned .nilIface ∧ ∃ F', KC ob fn K sb pb w' (out ++ [x]) F' ∧ Fr (fun k => F0 k ∨ k = sb ∨ k = pb) w w' ∧ ∀ k, F' k → (F0 k ∨ k = sb ∨ k = pb) ∨ w.heap.size ≤ k) ∨
      (∃ T a, e = .returned (.iface T (.pointer (some a))) ∧ IsMal w' T a ∧ stop (out ++ [x]) ∧ Fr (fun k => F0 k ∨ k = sb ∨ k = pb) w w') := by
  obtain ⟨hb1, hb2⟩ := adl_bd out 1 0 (by omega) (by omega)
  have HS : Hid _ := one_snoc out x
  have hbyte : x.toNat ≤ 255 := by have := x.toNat_lt; omega
  have H1 : Hid (one (adl 1 0 out) % 65536 ≤ 65520) := (by rw [AdW.one_lo _ hb1]; exact hb1 : _ ≤ _)
  have H2 : Hid (one (adl 1 0 out) / 65536 ≤ 65520) := (by rw [AdW.one_hi _ hb1]; exact hb2 : _ ≤ _)
  clear hb1 hb2
  generalize one (adl 1 0 out) = V at *
  have c1 : w.cell? ⟨sb, 0, none⟩ = some (.int .u32 (V : Int)) := by simpa using (cell_of h1 0).1
  have f1 := (cell_of h1 0).2
  have g1 := fun v => set_of h1 0 v
  have g2 : ∀ v, (w.setCell ⟨sb, 0, none⟩ v).heap[pb]? = _ := fun v => (set_other 0 v (Ne.symm h5)).trans h2
  have c2 : ∀ v, (w.setCell ⟨sb, 0, none⟩ v).cell? ⟨pb, 0, none⟩ = some (.func (.func fn) #[.pointer (some ⟨ob, 0, none⟩)] #[]) := fun v => by simpa using (cell_of (g2 v) 0).1
  have gK : ∀ v, K (w.setCell ⟨sb, 0, none⟩ v) out F0 := fun v => hI.stable hK (fun k hk => set_other 0 v (fun e => hk.elim (fun hk => h3 (e ▸ hk)) (fun hk => by omega))) (by simp)
  have hbd : ∀ args w, (callFunc fn args).run Tryz.prog w = .ok (.enter fn args) w := hI.body
  have hC := fun v => hI.call (w.setCell ⟨sb, 0, none⟩ v) out F0 x (gK v) hl hF (by simpa using hb)
  have hC' : ∀ v, Calls Tryz.prog fn #[.pointer (some ⟨ob, 0, none⟩), .int .u8 ((x.toNat : Nat) : Int)] (w.setCell ⟨sb, 0, none⟩ v) _ := hC
  clear hC
  go_enter Tryz.func122, Tryz.ntmps122
  go_wp2_with fail
  refine (AdW.add_any V x.toNat _ H1.out H2.out hbyte).mono ?_
  rintro e wz ⟨rfl, hwz⟩
  have hwz := hwz.symm
  subst hwz
  go_wp2_with fail
  refine (hC' _).mono ?_
  have hf0 : Fr (fun k => F0 k ∨ k = sb ∨ k = pb) w (w.setCell ⟨sb, 0, none⟩ (.int .u32 ((addT V x.toNat : Nat) : Int))) := (Fr.refl (fun k => F0 k ∨ k = sb ∨ k = pb) w).set sb 0 (.inr (.inl rfl)) _
  have hsz : (w.setCell ⟨sb, 0, none⟩ (.int .u32 ((addT V x.toNat : Nat) : Int))).heap.size = w.heap.size := by simp
  have HZ : Hid _ := hsz
  have G1 := g1 (.int .u32 ((addT V x.toNat : Nat) : Int))
  have G2 := g2 (.int .u32 ((addT V x.toNat : Nat) : Int))
  clear hsz c1 f1 g1 g2 c2 gK hC'
  generalize (w.setCell ⟨sb, 0, none⟩ (.int .u32 ((addT V x.toNat : Nat) : Int))) = w1 at *
  rintro e w3 (⟨rfl, F', b1, b2, b3⟩ | ⟨T, a, rfl, b0, b1, b2⟩)
  · go_wp2_with fail
    go_ret
    refine .inl ⟨rfl, (fun k => F' k ∨ k = sb ∨ k = pb), ⟨F', b1, rfl, ?_, ?_, ?_, ?_, h5⟩, hf0.trans (b2.mono (fun k hk => .inl hk)), fun k hk => ?_⟩
    · refine (b2.block sb (lt_of_some G1) h3).trans (G1.trans ?_)
      rw [HS.out]; simp
    · exact (b2.block pb (lt_of_some G2) h4).trans G2
    · exact fun e => (b3 sb e).elim h3 (fun h => by have := lt_of_some G1; omega)
    · exact fun e => (b3 pb e).elim h4 (fun h => by have := lt_of_some G2; omega)
    · rcases hk with hk | hk
      · rcases b3 k hk with e | e
        · exact .inl (.inl e)
        · exact .inr (by have := HZ.out; omega)
      · exact .inl (.inr hk)
  · go_wp2_with fail
    go_ret
    exact .inr ⟨T, a, rfl, b0, b1, hf0.trans (b2.mono (fun k hk => .inl hk))⟩
theorem innC_ok {ob : Nat} {fn : FuncId} {K : World → List UInt8 → (Nat → Prop) → Prop} {stop : List UInt8 → Prop} {base : Nat} (hI : (mI ob fn K stop).Ok base) (sb pb : Nat) : (innC ob fn K stop sb pb).Ok base where
  lt := by
    rintro w out F ⟨F0, h0, rfl, h1, h2, _⟩ k hk
    rcases hk with hk | rfl | rfl
    · exact hI.lt h0 k hk
    · exact lt_of_some h1
    · exact lt_of_some h2
  stable := by
    rintro w w' out F ⟨F0, h0, rfl, h1, h2, h3⟩ e hs
    exact ⟨F0, hI.stable h0 (fun k hk => e k (hk.imp .inl id)) hs, rfl, (e sb (.inl (.inr (.inl rfl)))).trans h1, (e pb (.inl (.inr (.inr rfl)))).trans h2, h3⟩
  busy := by
    rintro w out F ⟨F0, h0, rfl, h1, h2, h3⟩ k cur T f hk e
    rcases hk with hk | rfl | rfl
    · exact hI.busy h0 k cur T f hk e
    · rw [h1] at e; simp at e; rw [← e.2.1]; decide
    · rw [h2] at e; simp at e; rw [← e.2.1]; decide
  body := fun args w => callBody Tryz.func122 (by kernel_rfl) (by kernel_rfl) args w
  call := by
    rintro w out F x ⟨F0, h0, rfl, h1, h2, h3, h4, h5⟩ hl hF hb
    exact closure_any ob fn K stop sb pb base hI w out F0 x h0 hl (fun k hk => hF k (.inl hk)) (hF sb (.inr (.inl rfl))) hb h1 h2 h3 h4 h5
theorem putC {ob : Nat} {fn : FuncId} {K : World → List UInt8 → (Nat → Prop) → Prop} {stop : List UInt8 → Prop} {base : Nat} (hI : (mI ob fn K stop).Ok base) (sb pb : Nat) : PutOk (sinkI (innC ob fn K stop sb pb)) base := putCl _ _ _ _ _ base (innC_ok hI sb pb)
theorem and15 (c : Nat) (h : c < 256) : bits BinOp.and IntKind.i64 (c : Int) 15 = ((c % 16 : Nat) : Int) := by
  have h := i64_and_nat c 15 (by omega) (by omega)
  have e : c &&& 15 = c % 16 := Nat.and_two_pow_sub_one_eq_mod c 4
  rw [e] at h
  exact h
theorem and32 (f : Nat) (h : f < 256) : bits BinOp.and IntKind.i64 (f : Int) 32 = ((f / 32 % 2 * 32 : Nat) : Int) := by
  have h1 := i64_and_nat f 32 (by omega) (by omega)
  have e : f &&& 32 = f / 32 % 2 * 32 := by
    have all : ∀ f : Fin 256, f.val &&& 32 = f.val / 32 % 2 * 32 := by decide +kernel
    exact all ⟨f, h⟩
  rw [e] at h1
  exact h1
theorem or8 (c f : Nat) (hc : c < 256) (hf : f < 256) : bits BinOp.or IntKind.i64 ((c : Int) * 256) (f : Int) = ((256 * c + f : Nat) : Int) := by
  have h := i64_or_nat (c * 256) f (by omega) (by omega)
  have e : c * 256 ||| f = 256 * c + f := by rw [Nat.mul_comm c]; exact (Nat.two_pow_add_eq_or_of_lt (i := 8) (by omega) c).symm
  rw [e] at h
  rw [← h]; congr 1
/-- the two bytes ahead -/
def headOk (c f : Nat) : Prop := c % 16 = 8 ∧ c / 16 ≤ 7 ∧ (256 * c + f) % 31 = 0 ∧ f / 32 % 2 = 0
set_option maxRecDepth 10000 in
set_option maxHeartbeats 4000000 in
theorem head_any (tb : Src) (rb : Nat) (s : ByteArray) (w : World) (h : Rd w tb rb s 0) (hs : s.size ≤ 140737488354000) :
    Calls Tryz.prog 121 #[.pointer (some ⟨rb, 0, none⟩)] w fun e w' =>
      ((2 ≤ s.size ∧ headOk (bitsV s 0 8) (bitsV s 8 8)) ∧ e = .returned (.tuple #[.int .i64 ((pw (bitsV s 0 8 / 16 + 8) : Nat) : Int), .nilIface]) ∧ Rd w' tb rb s 16 ∧ RF tb rb w w') ∨
      ((∃ T a, e = .returned (.tuple #[.int .i64 0, .iface T (.pointer (some a))]) ∧ Why tb w' T a (¬ (2 ≤ s.size ∧ headOk (bitsV s 0 8) (bitsV s 8 8)))) ∧ RdE w' tb rb s ∧ RF tb rb w w') := by
  have hc := bitsV_lt s 0 8
  have hf := bitsV_lt s 8 8
  have N1 := number_any tb rb s 0 8 w h hs (by omega)
  have hN0 : (numT s 8 ⟨0, false⟩).2.bad = true → ¬ 2 ≤ s.size := fun hb h2 => by rw [numT_ok s 8 0 (by omega)] at hb; cases hb
  have hN1 : (numT s 8 ⟨0 + 8, false⟩).2.bad = true → ¬ 2 ≤ s.size := fun hb h2 => by rw [numT_ok s 8 (0 + 8) (by omega)] at hb; cases hb
  have HN0 : Hid _ := hN0
  have HN1 : Hid _ := hN1
  clear hN0 hN1
  generalize bitsV s 0 8 = c at *
  obtain ⟨f, hF⟩ : ∃ f, bitsV s (0 + 8) 8 = f := ⟨_, rfl⟩
  have hF' : bitsV s 8 8 = f := hF
  rw [hF'] at hf ⊢
  have HF : Hid (bitsV s (0 + 8) 8 = f) := hF
  clear hF hF'
  have hc' : c < 256 := hc
  have hf' : f < 256 := hf
  have ha := and15 c hc'
  have ho := or8 c f hc' hf'
  have h32 := and32 f hf'
  clear hc hf
  go_enter Tryz.func121, Tryz.ntmps121
  go_wp2_with fail
  refine N1.mono ?_
  clear N1
  rintro e w1 (⟨_, z1, rfl, g1, g2⟩ | ⟨⟨T, a, rfl, g0⟩, g1, g2⟩)
  rotate_left
  · have HW : Why tb w1 T a (¬ (2 ≤ s.size ∧ headOk c f)) := g0.imp (fun g0 hh => HN0.out g0 hh.1)
    clear g0
    go_wp2_with fail
    go_ret2
    exact .inr ⟨⟨T, a, rfl, HW⟩, g1, g2⟩
  by_cases k1 : c % 16 = 8
  rotate_left
  · have k1b : ((c : Int) % 16 != 8) = true := by rw [bne_iff_ne]; omega
    have HN : Hid (¬ (2 ≤ s.size ∧ headOk c f)) := (fun hh => k1 hh.2.1 : ¬ _)
    clear k1 z1
    go_wp2_with fail
    refine (mal_any _ _).mono ?_
    rintro e w2 ⟨rfl, rfl⟩
    go_wp2_with fail
    go_ret2
    exact .inr ⟨⟨_, _, rfl, Why.mal HN.out⟩, g1.rdE.alloc _, g2.alloc _⟩
  have k1b : ((c : Int) % 16 != 8) = false := by rw [bne_eq_false_iff_eq]; omega
  by_cases k2 : c / 16 ≤ 7
  rotate_left
  · have k2b : decide ((7 : Int) < (c : Int) / 16) = true := decide_eq_true (by omega)
    have HN : Hid (¬ (2 ≤ s.size ∧ headOk c f)) := (fun hh => k2 hh.2.2.1 : ¬ _)
    clear k1 k2 z1
    go_wp2_with fail
    refine (mal_any _ _).mono ?_
    rintro e w2 ⟨rfl, rfl⟩
    go_wp2_with fail
    go_ret2
    exact .inr ⟨⟨_, _, rfl, Why.mal HN.out⟩, g1.rdE.alloc _, g2.alloc _⟩
  have k2b : decide ((7 : Int) < (c : Int) / 16) = false := decide_eq_false (by omega)
  have HK : Hid (c % 16 = 8 ∧ c / 16 ≤ 7) := ⟨k1, k2⟩
  clear k1 k2
  go_wp2_with fail
  refine (number_any tb rb s (0 + 8) 8 _ g1 hs (by omega)).mono ?_
  rintro e w2 (⟨_, z2, rfl, q1, q2⟩ | ⟨⟨T, a, rfl, q0⟩, q1, q2⟩)
  rotate_left
  · have HW : Why tb w2 T a (¬ (2 ≤ s.size ∧ headOk c f)) := q0.imp (fun q0 hh => HN1.out q0 hh.1)
    clear q0
    go_wp2_with fail
    go_ret2
    exact .inr ⟨⟨T, a, rfl, HW⟩, q1, g2.trans q2⟩
  rw [HF.out] at *
  have HZ : Hid (2 ≤ s.size) := (by omega : _ ≤ _)
  clear z1 z2
  by_cases k3 : (256 * c + f) % 31 = 0
  rotate_left
  · have k3b : ((256 * (c : Int) + (f : Int)) % 31 != 0) = true := by rw [bne_iff_ne]; omega
    have HN : Hid (¬ (2 ≤ s.size ∧ headOk c f)) := (fun hh => k3 hh.2.2.2.1 : ¬ _)
    clear k3
    go_wp2_with fail
    refine (mal_any _ _).mono ?_
    rintro e w3 ⟨rfl, rfl⟩
    go_wp2_with fail
    go_ret2
    exact .inr ⟨⟨_, _, rfl, Why.mal HN.out⟩, q1.rdE.alloc _, (g2.trans q2).alloc _⟩
  have k3b : ((256 * (c : Int) + (f : Int)) % 31 != 0) = false := by rw [bne_eq_false_iff_eq]; omega
  by_cases k4 : f / 32 % 2 = 0
  rotate_left
  · have k4b : ((f : Int) / 32 % 2 * 32 != 0) = true := by rw [bne_iff_ne]; omega
    have HN : Hid (¬ (2 ≤ s.size ∧ headOk c f)) := (fun hh => k4 hh.2.2.2.2 : ¬ _)
    clear k3 k4
    go_wp2_with fail
    refine (mal_any _ _).mono ?_
    rintro e w3 ⟨rfl, rfl⟩
    go_wp2_with fail
    go_ret2
    exact .inr ⟨⟨_, _, rfl, Why.mal HN.out⟩, q1.rdE.alloc _, (g2.trans q2).alloc _⟩
  have k4b : ((f : Int) / 32 % 2 * 32 != 0) = false := by rw [bne_eq_false_iff_eq]; omega
  have HN : Hid (2 ≤ s.size ∧ headOk c f) := (⟨HZ.out, HK.out.1, HK.out.2, k3, k4⟩ : _ ∧ _)
  clear k3 k4
  have hcc := HK.out
  rcases (by omega : c = 8 ∨ c = 24 ∨ c = 40 ∨ c = 56 ∨ c = 72 ∨ c = 88 ∨ c = 104 ∨ c = 120) with rfl | rfl | rfl | rfl | rfl | rfl | rfl | rfl
  all_goals
    clear hcc
    simp at ho k3b
    go_wp2_with fail
    go_ret2
    exact .inl ⟨HN.out, rfl, q1, g2.trans q2⟩
end Go.Proofs.YtephkcdbnogdhaaGreatDoor.Pr
/- The walk of readSum. -/
set_option linter.unusedVariables false
namespace Go.Proofs.YtephkcdbnogdhaaGreatDoor.Pr
open Go.RowKit Rf
/-- four bytes from place q on are this number -/
def SumOk (s : ByteArray) (q want : Nat) : Prop := q + 4 ≤ s.size ∧ byteAt s q = want / 16777216 % 256 ∧ byteAt s (q + 1) = want / 65536 % 256 ∧ byteAt s (q + 2) = want / 256 % 256 ∧ byteAt s (q + 3) = want % 256
theorem num8_bad (s : ByteArray) (q k : Nat) (h : (numT s 8 ⟨q * 8, false⟩).2.bad = true) (hk : q < k) : ¬ k ≤ s.size := fun hk2 => by
  rw [numT_ok s 8 (q * 8) (by omega)] at h; cases h
set_option maxRecDepth 10000 in
set_option maxHeartbeats 4000000 in
theorem readSum_any (tb : Src) (rb : Nat) (s : ByteArray) (p q want : Nat) (w : World) (h : Rd w tb rb s p) (hs : s.size ≤ 140737488354000) (hw : want < 4294967296) (hq : q = (p + 7) / 8) :
    Calls Tryz.prog 123 #[.pointer (some ⟨rb, 0, none⟩), .int .u32 (want : Int)] w fun e w' =>
      (SumOk s q want ∧ e = .returned .nilIface ∧ Rd w' tb rb s (8 * (q + 4)) ∧ RF tb rb w w') ∨
      ((∃ T a, e = .returned (.iface T (.pointer (some a))) ∧ Why tb w' T a (¬ SumOk s q want)) ∧ RdE w' tb rb s ∧ RF tb rb w w') := by
  have HQ : Hid _ := hq
  clear hq
  go_enter Tryz.func123, Tryz.ntmps123
  go_wp2_with fail
  refine (align_any tb rb s p _ h).mono ?_
  rintro e w1 ⟨rfl, g1, g2⟩
  rw [← HQ.out] at g1
  go_wp2_with fail
  refine wp_loop_rounds 5 ?_
  rw [rounds_succ]
  go_wp2_with fail
  refine (number_any tb rb s (q * 8) 8 _ g1 hs (by omega)).mono ?_
  rintro e w2 (⟨_, z1, rfl, a1, c1⟩ | ⟨⟨T, a, rfl, a0⟩, a1, a2⟩)
  rotate_left
  · have HW : Why tb w2 T a (¬ SumOk s q want) := a0.imp (fun a0 hh => num8_bad s q (q + 4) (by rw [show q * 8 = q * 8 by omega]; exact a0) (by omega) hh.1)
    clear a0
    go_wp2_with fail
    go_ret
    exact .inr ⟨⟨T, a, rfl, HW⟩, a1, g2.trans a2⟩
  have F1 := g2.trans c1
  have HB1 : Hid (bitsV s (q * 8) 8 = byteAt s q) := bitsV_byte s (q * 8) q (by omega)
  rw [HB1.out]
  have hb1 := byteAt_lt s q
  obtain ⟨b1, hbb1⟩ : ∃ b, b = byteAt s q := ⟨_, rfl⟩
  rw [← hbb1] at hb1 ⊢
  have HV1 : Hid (b1 = byteAt s q) := hbb1
  clear hbb1
  by_cases e1 : b1 = want / 16777216 % 256
  rotate_left
  · have d1 : ((b1 : Int) != (want : Int) / 16777216) = true := by rw [bne_iff_ne]; omega
    have HN : Hid (¬ SumOk s q want) := (fun hh => e1 (HV1.out.trans hh.2.1) : ¬ _)
    clear e1
    go_wp2_with fail
    refine (mal_any _ _).mono ?_
    rintro e w9 ⟨rfl, rfl⟩
    go_wp2_with fail
    go_ret
    exact .inr ⟨⟨_, _, rfl, Why.mal HN.out⟩, a1.rdE.alloc _, F1.alloc _⟩
  have d1 : ((b1 : Int) != (want : Int) / 16777216) = false := by rw [bne_eq_false_iff_eq]; omega
  have E1 : Hid (byteAt s q = want / 16777216 % 256) := (HV1.out.symm.trans e1 : _ = _)
  clear e1
  go_wp2_with fail
  rw [rounds_succ]
  go_wp2_with fail
  refine (number_any tb rb s (q * 8 + 8) 8 _ a1 hs (by omega)).mono ?_
  rintro e w3 (⟨_, z2, rfl, a2, c2⟩ | ⟨⟨T, a, rfl, a0⟩, a1, a2⟩)
  rotate_left
  · have HW : Why tb w3 T a (¬ SumOk s q want) := a0.imp (fun a0 hh => num8_bad s (q + 1) (q + 4) (by rw [show (q + 1) * 8 = q * 8 + 8 by omega]; exact a0) (by omega) hh.1)
    clear a0
    go_wp2_with fail
    go_ret
    exact .inr ⟨⟨T, a, rfl, HW⟩, a1, F1.trans a2⟩
  have F2 := F1.trans c2
  have HB2 : Hid (bitsV s (q * 8 + 8) 8 = byteAt s (q + 1)) := bitsV_byte s (q * 8 + 8) (q + 1) (by omega)
  rw [HB2.out]
  have hb2 := byteAt_lt s (q + 1)
  obtain ⟨b2, hbb2⟩ : ∃ b, b = byteAt s (q + 1) := ⟨_, rfl⟩
  rw [← hbb2] at hb2 ⊢
  have HV2 : Hid (b2 = byteAt s (q + 1)) := hbb2
  clear hbb2
  by_cases e2 : b2 = want / 65536 % 256
  rotate_left
  · have d1 : ((b2 : Int) != (want : Int) / 65536 % 256) = true := by rw [bne_iff_ne]; omega
    have HN : Hid (¬ SumOk s q want) := (fun hh => e2 (HV2.out.trans hh.2.2.1) : ¬ _)
    clear e2
    go_wp2_with fail
    refine (mal_any _ _).mono ?_
    rintro e w9 ⟨rfl, rfl⟩
    go_wp2_with fail
    go_ret
    exact .inr ⟨⟨_, _, rfl, Why.mal HN.out⟩, a2.rdE.alloc _, F2.alloc _⟩
  have d2 : ((b2 : Int) != (want : Int) / 65536 % 256) = false := by rw [bne_eq_false_iff_eq]; omega
  have E2 : Hid (byteAt s (q + 1) = want / 65536 % 256) := (HV2.out.symm.trans e2 : _ = _)
  clear e2
  go_wp2_with fail
  rw [rounds_succ]
  go_wp2_with fail
  refine (number_any tb rb s (q * 8 + 8 + 8) 8 _ a2 hs (by omega)).mono ?_
  rintro e w4 (⟨_, z3, rfl, a3, c3⟩ | ⟨⟨T, a, rfl, a0⟩, a1, a2⟩)
  rotate_left
  · have HW : Why tb w4 T a (¬ SumOk s q want) := a0.imp (fun a0 hh => num8_bad s (q + 2) (q + 4) (by rw [show (q + 2) * 8 = q * 8 + 8 + 8 by omega]; exact a0) (by omega) hh.1)
    clear a0
    go_wp2_with fail
    go_ret
    exact .inr ⟨⟨T, a, rfl, HW⟩, a1, F2.trans a2⟩
  have F3 := F2.trans c3
  have HB3 : Hid (bitsV s (q * 8 + 8 + 8) 8 = byteAt s (q + 2)) := bitsV_byte s (q * 8 + 8 + 8) (q + 2) (by omega)
  rw [HB3.out]
  have hb3 := byteAt_lt s (q + 2)
  obtain ⟨b3, hbb3⟩ : ∃ b, b = byteAt s (q + 2) := ⟨_, rfl⟩
  rw [← hbb3] at hb3 ⊢
  have HV3 : Hid (b3 = byteAt s (q + 2)) := hbb3
  clear hbb3
  by_cases e3 : b3 = want / 256 % 256
  rotate_left
  · have d1 : ((b3 : Int) != (want : Int) / 256 % 256) = true := by rw [bne_iff_ne]; omega
    have HN : Hid (¬ SumOk s q want) := (fun hh => e3 (HV3.out.trans hh.2.2.2.1) : ¬ _)
    clear e3
    go_wp2_with fail
    refine (mal_any _ _).mono ?_
    rintro e w9 ⟨rfl, rfl⟩
    go_wp2_with fail
    go_ret
    exact .inr ⟨⟨_, _, rfl, Why.mal HN.out⟩, a3.rdE.alloc _, F3.alloc _⟩
  have d3 : ((b3 : Int) != (want : Int) / 256 % 256) = false := by rw [bne_eq_false_iff_eq]; omega
  have E3 : Hid (byteAt s (q + 2) = want / 256 % 256) := (HV3.out.symm.trans e3 : _ = _)
  clear e3
  go_wp2_with fail
  rw [rounds_succ]
  go_wp2_with fail
  refine (number_any tb rb s (q * 8 + 8 + 8 + 8) 8 _ a3 hs (by omega)).mono ?_
  rintro e w5 (⟨_, z4, rfl, a4, c4⟩ | ⟨⟨T, a, rfl, a0⟩, a1, a2⟩)
  rotate_left
  · have HW : Why tb w5 T a (¬ SumOk s q want) := a0.imp (fun a0 hh => num8_bad s (q + 3) (q + 4) (by rw [show (q + 3) * 8 = q * 8 + 8 + 8 + 8 by omega]; exact a0) (by omega) hh.1)
    clear a0
    go_wp2_with fail
    go_ret
    exact .inr ⟨⟨T, a, rfl, HW⟩, a1, F3.trans a2⟩
  have F4 := F3.trans c4
  have HB4 : Hid (bitsV s (q * 8 + 8 + 8 + 8) 8 = byteAt s (q + 3)) := bitsV_byte s (q * 8 + 8 + 8 + 8) (q + 3) (by omega)
  rw [HB4.out]
  have hb4 := byteAt_lt s (q + 3)
  obtain ⟨b4, hbb4⟩ : ∃ b, b = byteAt s (q + 3) := ⟨_, rfl⟩
  rw [← hbb4] at hb4 ⊢
  have HV4 : Hid (b4 = byteAt s (q + 3)) := hbb4
  clear hbb4
  by_cases e4 : b4 = want % 256
  rotate_left
  · have d1 : ((b4 : Int) != (want : Int) % 256) = true := by rw [bne_iff_ne]; omega
    have HN : Hid (¬ SumOk s q want) := (fun hh => e4 (HV4.out.trans hh.2.2.2.2) : ¬ _)
    clear e4
    go_wp2_with fail
    refine (mal_any _ _).mono ?_
    rintro e w9 ⟨rfl, rfl⟩
    go_wp2_with fail
    go_ret
    exact .inr ⟨⟨_, _, rfl, Why.mal HN.out⟩, a4.rdE.alloc _, F4.alloc _⟩
  have d4 : ((b4 : Int) != (want : Int) % 256) = false := by rw [bne_eq_false_iff_eq]; omega
  have E4 : Hid (byteAt s (q + 3) = want % 256) := (HV4.out.symm.trans e4 : _ = _)
  clear e4
  go_wp2_with fail
  rw [rounds_succ]
  go_wp2_with fail
  go_ret
  refine .inl ⟨⟨by omega, E1.out, E2.out, E3.out, E4.out⟩, rfl, ?_, F4⟩
  rw [show 8 * (q + 4) = q * 8 + 8 + 8 + 8 + 8 by omega]
  exact a4
end Go.Proofs.YtephkcdbnogdhaaGreatDoor.Pr
/- The walks of wrapped and Wrapped. -/
set_option linter.unusedVariables false
namespace Go.Proofs.YtephkcdbnogdhaaGreatDoor.Pr
open Go.RowKit Rf
open RfW (inflU)
open AdW (one)
open Ad (adl)
/-- what a wrapped row puts out -/
def wU (s : ByteArray) (size : Nat) : US := inflU (s.extract 2 s.size) (pw (byteAt s 0 / 16 + 8)) size
/-- a wrapped row that is as it must be, up to its sum -/
def WCore (s : ByteArray) (size : Nat) : Prop := (2 ≤ s.size ∧ headOk (byteAt s 0) (byteAt s 1)) ∧ (wU s size).st.bad = false ∧ (wU s size).out.length = size ∧ SumOk s (2 + ((wU s size).st.pos + 7) / 8) (one (adl 1 0 (wU s size).out))
/-- a wrapped row that is as it must be -/
def WOk (s : ByteArray) (size : Nat) (done : ByteArray → Prop) : Prop := (2 ≤ s.size ∧ headOk (byteAt s 0) (byteAt s 1)) ∧ (wU s size).st.bad = false ∧ (wU s size).out.length = size ∧ SumOk s (2 + ((wU s size).st.pos + 7) / 8) (one (adl 1 0 (wU s size).out)) ∧ 2 + ((wU s size).st.pos + 7) / 8 + 4 = s.size ∧ done s
theorem pw_bd8 (k : Nat) (h : k ≤ 7) : 1 ≤ pw (k + 8) ∧ pw (k + 8) ≤ 32768 := by
  rcases (by omega : k = 0 ∨ k = 1 ∨ k = 2 ∨ k = 3 ∨ k = 4 ∨ k = 5 ∨ k = 6 ∨ k = 7) with rfl | rfl | rfl | rfl | rfl | rfl | rfl | rfl <;> decide
theorem one_lt (l : List UInt8) : one (adl 1 0 l) < 4294967296 := by have := Ad.adl_bd l 1 0 (by omega) (by omega); unfold one; omega
set_option maxRecDepth 10000 in
set_option maxHeartbeats 8000000 in
theorem wrapped_go (tb : Src) (rb : Nat) (s : ByteArray) (size : Nat) (w : World) (ob : Nat) (fn : FuncId) (K : World → List UInt8 → (Nat → Prop) → Prop) (stop : List UInt8 → Prop) (hI : (mI ob fn K stop).Ok tb.base) (F : Nat → Prop) (hK : K w [] F) (hF : ∀ k, F k → tb.base ≤ k ∧ ¬ tb.F k ∧ k ≠ rb) (hR : Rd w tb rb s 0) (hO : OrderIs w) (hz : tb.z = 0) (hs : s.size ≤ 140737488354000) (hm : size ≤ 16777216) :
    Calls Tryz.prog 85 #[.pointer (some ⟨rb, 0, none⟩), .int .i64 (size : Int), .func (.func fn) #[.pointer (some ⟨ob, 0, none⟩)] #[]] w fun e w' =>
      (WCore s size ∧ e = .returned .nilIface ∧ (∃ F', K w' (wU s size).out F' ∧ ∀ k, F' k → tb.base ≤ k ∧ ¬ tb.F k ∧ k ≠ rb) ∧ Rd w' tb rb s (8 * (2 + ((wU s size).st.pos + 7) / 8 + 4)) ∧ PE tb.base w w') ∨
      ((∃ T a, e = .returned (.iface T (.pointer (some a))) ∧ Why tb w' T a (¬ WCore s size ∨ ∃ p, stop p ∧ p <+: (wU s size).out)) ∧ RdE w' tb rb s ∧ PE tb.base w w') := by
  have htb : tb.Ok := by obtain ⟨_, _, _, _, _, _, _, h5, _⟩ := hR; exact h5
  have hng := htb.ng
  have hl := hR.lts
  have hpn := hR.new (Nat.le_refl w.heap.size)
  have hR0 := hR.alloc (.cells #[.func (.func fn) #[.pointer (some ⟨ob, 0, none⟩)] #[]] 134)
  have hp0 := PE.alloc tb.base w (.cells #[.func (.func fn) #[.pointer (some ⟨ob, 0, none⟩)] #[]] 134) hl.2.2.2
  have hpb := (MapKept.heap_alloc w (.cells #[.func (.func fn) #[.pointer (some ⟨ob, 0, none⟩)] #[]] 134)).1
  have hsz0 : (w.alloc (.cells #[.func (.func fn) #[.pointer (some ⟨ob, 0, none⟩)] #[]] 134)).heap.size = w.heap.size + 1 := by simp
  have hFl := hI.lt hK
  have hK0 : K (w.alloc (.cells #[.func (.func fn) #[.pointer (some ⟨ob, 0, none⟩)] #[]] 134)) [] F := hI.stable hK (fun k hk => hk.elim (fun hk => alloc_old (hFl k hk)) (fun hk => hp0.low k hk)) (by simp)
  have hO0 := hO.over (hp0.low _ (by omega))
  have HBY0 : Hid (bitsV s 0 8 = byteAt s 0) := bitsV_byte s 0 0 rfl
  have HBY1 : Hid (bitsV s 8 8 = byteAt s 1) := bitsV_byte s 8 1 rfl
  have hH := head_any tb rb s _ hR0 hs
  rw [HBY0.out, HBY1.out] at hH
  obtain ⟨P, hP0⟩ : ∃ P : Prop, P = (2 ≤ s.size ∧ headOk (byteAt s 0) (byteAt s 1)) := ⟨_, rfl⟩
  rw [← hP0] at hH
  obtain ⟨Q, hQ0⟩ : ∃ Q : Prop, Q = WCore s size := ⟨_, rfl⟩
  rw [← hQ0]
  have HP : Hid (P = (2 ≤ s.size ∧ headOk (byteAt s 0) (byteAt s 1))) := hP0
  have HQ : Hid (Q = WCore s size) := hQ0
  have HU : Hid (wU s size = inflU (s.extract 2 s.size) (pw (byteAt s 0 / 16 + 8)) size) := rfl
  clear hP0 hQ0 hR hK hO
  generalize wU s size = U at *
  go_enter Tryz.func85, Tryz.ntmps85
  go_wp2_with fail
  generalize (w.alloc (.cells #[.func (.func fn) #[.pointer (some ⟨ob, 0, none⟩)] #[]] 134)) = w0 at *
  refine hH.mono ?_
  clear hH
  rintro e w1 (⟨hhd, rfl, g1, g2⟩ | ⟨⟨T, a, rfl, g0⟩, g1, g2⟩)
  rotate_left
  · have hp1 := g2.pe hR0
    have HW : Why tb w1 T a (¬ Q ∨ ∃ p, stop p ∧ p <+: U.out) := g0.imp (fun g0 => .inl (fun hq => g0 (by rw [HP.out]; rw [HQ.out] at hq; exact hq.1)))
    clear g0
    go_wp2_with fail
    go_ret
    exact .inr ⟨⟨T, a, rfl, HW⟩, g1, hp0.trans hp1⟩
  have hp1 := g2.pe hR0
  have HHD : Hid P := hhd
  clear hhd
  have hhd2 : 2 ≤ s.size ∧ headOk (byteAt s 0) (byteAt s 1) := by rw [← HP.out]; exact HHD.out
  obtain ⟨hs2, hk1, hk2, _⟩ := hhd2
  have hwin := pw_bd8 (byteAt s 0 / 16) hk2
  have hK1 : K w1 [] F := hI.stable hK0 (fun k hk => hk.elim (fun hk => g2.block k (hI.lt hK0 k hk) (hF k hk).2.1 (hF k hk).2.2) (fun hk => hp1.low k hk)) g2.size
  have hO1 := hO0.over (hp1.low _ (by omega))
  have hpb1 : w1.heap[w.heap.size]? = _ := (g2.block w.heap.size (by omega) hpn.2.1 hpn.2.2).trans hpb
  have hsz1 : w.heap.size + 1 ≤ w1.heap.size := by have := g2.size; omega
  have hsn := g1.new (Nat.le_refl w1.heap.size)
  -- the sum's box
  have hsb : (w1.alloc (.cells #[.int .u32 1] 174)).heap[w1.heap.size]? = some (.cells #[.int .u32 1] 174 (0, 0)) := (MapKept.heap_alloc w1 (.cells #[.int .u32 1] 174)).1
  have hold : ∀ k, k < w1.heap.size → (w1.alloc (.cells #[.int .u32 1] 174)).heap[k]? = w1.heap[k]? := fun k hk => alloc_old hk
  have hsz2 : (w1.alloc (.cells #[.int .u32 1] 174)).heap.size = w1.heap.size + 1 := by simp
  have hp12 : PE tb.base w1 (w1.alloc (.cells #[.int .u32 1] 174)) := PE.alloc tb.base w1 _ (by have := g1.lts; omega)
  have HOLD : Hid _ := hold
  have HSB : Hid _ := hsb
  have HSZ2 : Hid _ := hsz2
  have HP12 : Hid _ := hp12
  have hlt1 := g1.lts
  clear hold hsb hsz2 hp12 hpb
  go_wp2_with fail
  generalize (w1.alloc (.cells #[.int .u32 1] 174)) = w2 at *
  have hR2 : Rd w2 (tb.shift 2 s) rb (s.extract 2 s.size) 0 := Rd.toShift 2 (by omega) hs2 (g1.grow HOLD.out)
  have hK2 : K w2 [] F := hI.stable hK1 (fun k hk => hk.elim (fun hk => HOLD.out k (hI.lt hK1 k hk)) (fun hk => HP12.out.low k hk)) (by have := HSZ2.out; omega)
  have hKC : (innC ob fn K stop w1.heap.size w.heap.size).K w2 [] (fun k => F k ∨ k = w1.heap.size ∨ k = w.heap.size) := ⟨F, hK2, rfl, HSB.out, (HOLD.out _ (by omega)).trans hpb1, fun e => by have := hI.lt hK1 _ e; omega, fun e => by have := hFl _ e; omega, by omega⟩
  have hU0 := UP.start (S := sinkI (innC ob fn K stop w1.heap.size w.heap.size)) (tb.shift 2 s) rb (s.extract 2 s.size) (pw (byteAt s 0 / 16 + 8)) size 0 w2 _ _ _ _ rfl (sinkI_ok (innC_ok hI _ _)) hKC (fun k hk => by
    rcases hk with hk | rfl | rfl
    · exact hF k hk
    · exact hsn
    · exact hpn) hR2 (hO1.over (HP12.out.low _ (by omega)))
  have hp3 := (PE.alloc tb.base w2 (.cells #[.int .i64 ((pw (byteAt s 0 / 16 + 8) : Nat) : Int), .slice none 0 0, .int .i64 0] 231) (by have := HSZ2.out; omega)).trans (PE.alloc tb.base _ (.cells #[.pointer (some ⟨rb, 0, none⟩), .pointer (some ⟨w2.heap.size, 0, none⟩), .int .i64 (size : Int), .bool false, .func (.func 122) #[] #[.pointer (some ⟨w1.heap.size, 0, none⟩), .pointer (some ⟨w.heap.size, 0, none⟩)], .pointer none] 185) (by have := HSZ2.out; simp; omega))
  clear hR2 hK2 hKC
  refine (newU_any _ _ size _ _ _ _).mono ?_
  rintro e w3 ⟨rfl, hw3⟩
  rw [← hw3] at hp3
  have hU0' : UP (sinkI (innC ob fn K stop w1.heap.size w.heap.size)) w3 ⟨tb.shift 2 s, rb, w2.heap.size, w2.heap.size + 1, false⟩ (s.extract 2 s.size) (pw (byteAt s 0 / 16 + 8)) size ⟨⟨0, false⟩, []⟩ := by rw [hw3]; exact hU0
  clear hU0
  have HW3 : Hid _ := hw3
  clear hw3
  obtain ⟨hU1, hp4⟩ := hU0'.setAll
  have ca := hU0'.all
  have cf := hU0'.allf
  dsimp only at ca cf hU1
  have hPP := (((hp0.trans hp1).trans HP12.out).trans hp3).trans hp4
  go_wp2_with fail
  refine (blocks_any _ ⟨tb.shift 2 s, rb, w2.heap.size, w2.heap.size + 1, true⟩ (s.extract 2 s.size) (pw (byteAt s 0 / 16 + 8)) size ⟨⟨0, false⟩, []⟩ _ (putC hI w1.heap.size w.heap.size) hU1 (by rw [rest_size]; omega) hm hwin.1 hwin.2).mono ?_
  clear ca cf hp4
  have HU2 : Hid (blkF (s.extract 2 s.size) (pw (byteAt s 0 / 16 + 8)) size (8 * (s.extract 2 s.size).size + 1) ⟨⟨0, false⟩, []⟩ = U) := (HU.out.symm : _ = _)
  rw [HU2.out]
  rintro e w4 (⟨q1, rfl, q3, q4, q5⟩ | ⟨⟨T, a, rfl, q1⟩, q3, q4⟩)
  rotate_left
  · have hre : RdE w4 tb rb s := RdE.ofShift hs2 htb q3.1
    have HW : Why tb w4 T a (¬ Q ∨ ∃ p, stop p ∧ p <+: U.out) := Why.imp (S := tb) q1 (fun q1 => q1.elim (fun q1 => q1.elim (fun hb => .inl (fun hq => by rw [HQ.out] at hq; have h9 := hq.2.1; rw [show wU s size = U from HU.out.symm] at h9; rw [hb] at h9; cases h9)) .inr) (fun q1 => .inl (fun hq => by rw [HQ.out] at hq; have h9 := hq.2.2.1; rw [show wU s size = U from HU.out.symm] at h9; have := q1.2; omega)))
    clear q1 q3
    go_wp2_with fail
    go_ret
    exact .inr ⟨⟨T, a, rfl, HW⟩, hre, hPP.trans q4⟩
  have hr4 : Rd w4 tb rb s (U.st.pos + 8 * 2) := Rd.ofShift htb q3.facts.2.1
  have hol : U.out.length ≤ size := q3.facts.2.2
  obtain ⟨_, _, c2, _⟩ := q3.cells
  obtain ⟨vr, Fs, fx, h1, h2, h3, h4, h5, h6, ⟨F0, k0, hFs, k1, k2, k3⟩, h8, _⟩ := q3
  have HQ5 : Hid _ := q5 rfl
  clear q5
  have hFd : ∀ k, F0 k → tb.base ≤ k ∧ ¬ tb.F k ∧ k ≠ rb := fun k hk => by
    have := h8 k (by rw [hFs]; exact .inl hk)
    exact ⟨this.1, this.2.1, this.2.2.1⟩
  have cs : w4.cell? ⟨w1.heap.size, 0, none⟩ = some (.int .u32 ((one (adl 1 0 U.out) : Nat) : Int)) := by simpa using (cell_of k1 0).1
  have hPW := hPP.trans q4
  have HWB : Hid (U.st.bad = false) := q1
  have HV : Hid (∀ V, V = one (adl 1 0 U.out) → V < 4294967296) := fun V hV => by rw [hV]; exact one_lt _
  clear h1 h2 h3 h4 h5 h6 hFs k1 k2 k3 h8 q1 q4 hPP hp3 hp1 hp0 hU0' hU1
  obtain ⟨V, hV⟩ : ∃ V, V = one (adl 1 0 U.out) := ⟨_, rfl⟩
  rw [← hV] at cs
  have hVl := HV.out V hV
  have HVV : Hid (V = one (adl 1 0 U.out)) := hV
  clear hV
  have HLEN : Hid (U.out.length = size) := (by have := HQ5.out; omega : _ = _)
  clear c2
  go_wp2_with fail
  refine (readSum_any tb rb s (U.st.pos + 8 * 2) (2 + (U.st.pos + 7) / 8) V _ hr4 hs hVl (by omega)).mono ?_
  rintro e w5 (⟨r1, rfl, r3, r4⟩ | ⟨⟨T, a, rfl, r1⟩, r3, r4⟩)
  rotate_left
  · have hpe := r4.pe hr4
    have HW : Why tb w5 T a (¬ Q ∨ ∃ p, stop p ∧ p <+: U.out) := r1.imp (fun r1 => .inl (fun hq => by rw [HQ.out] at hq; have h9 := hq.2.2.2; rw [show wU s size = U from HU.out.symm, ← HVV.out] at h9; exact r1 h9))
    clear r1
    go_wp2_with fail
    go_ret
    exact .inr ⟨⟨T, a, rfl, HW⟩, r3, hPW.trans hpe⟩
  have hpe5 := r4.pe hr4
  have HSUM : Hid _ := r1
  clear r1
  have hk5 : K w5 U.out F0 := hI.stable k0 (fun k hk => hk.elim (fun hk => r4.block k (hI.lt k0 k hk) (hFd k hk).2.1 (hFd k hk).2.2) (fun hk => hpe5.low k hk)) r4.size
  have HQQ : Hid Q := (by
    rw [HQ.out]
    unfold WCore
    rw [show wU s size = U from HU.out.symm, ← HVV.out, ← HP.out]
    exact ⟨HHD.out, HWB.out, HLEN.out, HSUM.out⟩ : Q)
  go_wp2_with fail
  go_ret
  exact .inl ⟨HQQ.out, rfl, ⟨F0, hk5, hFd⟩, r3, hPW.trans hpe5⟩
set_option maxRecDepth 10000 in
set_option maxHeartbeats 4000000 in
theorem Wrapped_go (tb : Src) (htb : tb.Ok) (s : ByteArray) (size : Nat) (w : World) (ob : Nat) (fn : FuncId) (K : World → List UInt8 → (Nat → Prop) → Prop) (stop : List UInt8 → Prop) (hI : (mI ob fn K stop).Ok tb.base) (fe : FuncId) (done : ByteArray → Prop) (KD : World → Prop) (hE : tb.EndOk fe done KD) (F : Nat → Prop) (hK : K w [] F) (hF : ∀ k, F k → tb.base ≤ k ∧ ¬ tb.F k) (ht : tb.K w s 0) (hO : OrderIs w) (hz : tb.z = 0) (hs : s.size ≤ 140737488354000) (hm : size ≤ 16777216) :
    Calls Tryz.prog 45 #[.iface tb.T (.pointer (some tb.a)), .int .i64 (size : Int), .func (.func fn) #[.pointer (some ⟨ob, 0, none⟩)] #[]] w fun e w' =>
      (WOk s size done ∧ e = .returned .nilIface ∧ (∃ F', K w' (wU s size).out F' ∧ ∀ k, F' k → tb.base ≤ k ∧ ¬ tb.F k) ∧ KD w' ∧ tb.KE w' ∧ PE tb.base w w') ∨
      ((∃ T a, e = .returned (.iface T (.pointer (some a))) ∧ Why tb w' T a (¬ WOk s size done ∨ ∃ p, stop p ∧ p <+: (wU s size).out)) ∧ tb.KE w' ∧ PE tb.base w w') := by
  have hR0 := Rd.first htb ht hz
  have hng := htb.ng
  have hbs := htb.hb (htb.ke ht)
  have hp0 := PE.alloc tb.base w (.cells #[.iface tb.T (.pointer (some tb.a)), .int .u32 0, .int .u64 0, .int .i64 0] 180) hbs
  have hFl := hI.lt hK
  have hW := wrapped_go tb w.heap.size s size _ ob fn K stop hI F (hI.stable hK (fun k hk => hk.elim (fun hk => alloc_old (hFl k hk)) (fun hk => hp0.low k hk)) (by simp)) (fun k hk => ⟨(hF k hk).1, (hF k hk).2, by have := hFl k hk; omega⟩) hR0 (hO.over (hp0.low _ (by omega))) hz hs hm
  have HWC : Hid (WOk s size done ↔ WCore s size ∧ 2 + ((wU s size).st.pos + 7) / 8 + 4 = s.size ∧ done s) := (⟨fun ⟨a, b, c, d, e, f⟩ => ⟨⟨a, b, c, d⟩, e, f⟩, fun ⟨⟨a, b, c, d⟩, e, f⟩ => ⟨a, b, c, d, e, f⟩⟩ : _ ↔ _)
  obtain ⟨Q, hQ0⟩ : ∃ Q : Prop, Q = WOk s size done := ⟨_, rfl⟩
  rw [← hQ0] at HWC ⊢
  obtain ⟨R, hR1⟩ : ∃ R : Prop, R = WCore s size := ⟨_, rfl⟩
  rw [← hR1] at HWC hW
  clear hQ0 hR1
  generalize wU s size = U at *
  obtain ⟨t, ht0⟩ : ∃ t, t = 2 + (U.st.pos + 7) / 8 + 4 := ⟨_, rfl⟩
  rw [← ht0] at hW HWC
  have hmE := hE.meth
  have hbE := hE.body
  clear hR0 hK ht ht0
  go_enter Tryz.func45, Tryz.ntmps45
  go_wp2_with fail
  refine (bitNew_any _ _ _).mono ?_
  rintro e w1 ⟨rfl, rfl⟩
  go_wp2_with fail
  refine hW.mono ?_
  clear hW
  rintro e w2 (⟨q1, rfl, ⟨F', q3, q4⟩, q5, q6⟩ | ⟨⟨T, a, rfl, q1⟩, q3, q4⟩)
  · have HR : Hid R := q1
    clear q1
    have hre := q5.rdE
    have hno := q5.no
    obtain ⟨c, hc, t', h1, h2, h3, h4, h5, h6⟩ := q5
    have ht' : t' = t := by omega
    subst ht'
    have hlt := hI.lt q3
    have hbs2 := htb.hb (htb.ke h4)
    have hkeep : ∀ w', tb.KE w' → Fr tb.F w2 w' → RdE w' tb w.heap.size s ∧ (∃ F', K w' U.out F' ∧ ∀ k, F' k → tb.base ≤ k ∧ ¬ tb.F k) ∧ PE tb.base w2 w' := fun w' hk hf => by
      have hpe : PE tb.base w2 w' := hf.pe hbs2 (fun k hk => htb.low k hk) (fun k cur T f hk e => by
        obtain ⟨cur', T', f', e1, e2⟩ := htb.typ (htb.ke h4) hk
        rw [e] at e1; cases e1
        unfold busyT; rw [e2]; rfl)
      refine ⟨?_, ⟨F', hI.stable q3 (fun k hk => hk.elim (fun hk => hf.block k (hlt k hk) (q4 k hk).2.1) (fun hk => hpe.low k hk)) hf.size, fun k hk => ⟨(q4 k hk).1, (q4 k hk).2.1⟩⟩, hpe⟩
      obtain ⟨c, t, v, k1, k2, k3, k4, k5, k6⟩ := hre
      exact ⟨c, t, v, k1, k2, k3, hk, k5, (hf.block _ (lt_of_some k6) hno).trans k6⟩
    have HN : Calls Tryz.prog fe #[.pointer (some tb.a)] w2 fun e w' =>
      (Q ∧ e = .returned .nilIface ∧ KD w' ∧ tb.KE w' ∧ Fr tb.F w2 w') ∨
      (∃ T a, e = .returned (.iface T (.pointer (some a))) ∧ Why tb w' T a (¬ Q) ∧ tb.KE w' ∧ Fr tb.F w2 w') := by
      by_cases hd : t' = s.size ∧ done s
      · refine (hE.ok w2 s (by rw [← hd.1]; exact h4) hd.2).mono ?_
        rintro e w' (⟨k0, k1, k2, k3⟩ | ⟨T, a, k0, k1, k2, k3, k4⟩)
        · exact .inl ⟨HWC.out.2 ⟨HR.out, hd⟩, k0, k1, k2, k3⟩
        · exact .inr ⟨T, a, k0, .inr ⟨k1, k2⟩, k3, k4⟩
      · refine (hE.bad w2 s t' h4 (by
          rcases Nat.lt_or_ge t' s.size with hl | hl
          · exact .inl hl
          · have he : t' = s.size := by omega
            exact .inr ⟨he, fun hdn => hd ⟨he, hdn⟩⟩)).mono ?_
        rintro e w' ⟨T, a, k0, k1, k2, k3⟩
        exact .inr ⟨T, a, k0, k1.imp (fun _ hq => hd (HWC.out.1 hq).2), k2, k3⟩
    clear h6 h4 hre
    go_wp2_with fail
    refine HN.mono ?_
    clear HN
    rintro e w3 (⟨k0, rfl, k1, k2, k3⟩ | ⟨T, a, rfl, k1, k2, k3⟩)
    · have HQ : Hid Q := k0
      clear k0
      obtain ⟨z1, z2, z3⟩ := hkeep w3 k2 k3
      clear hkeep
      go_wp2_with fail
      go_ret
      exact .inl ⟨HQ.out, rfl, z2, k1, k2, (hp0.trans q6).trans z3⟩
    · obtain ⟨z1, z2, z3⟩ := hkeep w3 k2 k3
      have hb3 : tb.base ≤ w3.heap.size := htb.hb k2
      have HW : Why tb w3 T a (¬ Q ∨ ∃ p, stop p ∧ p <+: U.out) := k1.imp .inl
      clear hkeep k1
      go_wp2_with fail
      refine (taken_err tb w.heap.size s _ z1).mono ?_
      rintro e w4 ⟨⟨n, rfl⟩, hw4⟩
      subst hw4
      go_wp2_with fail
      refine (at_any _ _ _ _ _).mono ?_
      rintro e w5 ⟨rfl, rfl⟩
      go_wp2_with fail
      go_ret
      exact .inr ⟨⟨_, _, rfl, HW.placeAt _ _ _ rfl⟩, htb.stableE k2 (fun k hk => alloc_old (hk.elim (fun hk => htb.lt k2 hk) (fun hk => by omega))), ((hp0.trans q6).trans z3).trans (PE.alloc _ _ _ hb3)⟩
  · have hke : tb.KE w2 := by obtain ⟨_, _, _, _, _, _, h, _⟩ := q3; exact h
    have hb2 : tb.base ≤ w2.heap.size := htb.hb hke
    have HW : Why tb w2 T a (¬ Q ∨ ∃ p, stop p ∧ p <+: U.out) := q1.imp (fun q1 => q1.imp (fun hn hq => hn (HWC.out.1 hq).1) id)
    clear q1
    go_wp2_with fail
    refine (taken_err tb w.heap.size s _ q3).mono ?_
    rintro e w3 ⟨⟨n, rfl⟩, hw3⟩
    subst hw3
    go_wp2_with fail
    refine (at_any _ _ _ _ _).mono ?_
    rintro e w4 ⟨rfl, rfl⟩
    go_wp2_with fail
    go_ret
    exact .inr ⟨⟨_, _, rfl, HW.placeAt _ _ _ rfl⟩, htb.stableE hke (fun k hk => alloc_old (hk.elim (fun hk => htb.lt hke hk) (fun hk => by omega))), (hp0.trans q4).trans (PE.alloc _ _ _ hb2)⟩
end Go.Proofs.YtephkcdbnogdhaaGreatDoor.Pr
