/- What was put out, in memory; the walk of the document's put. -/
import Derived.Test.YtjfifmadldcjjaaGreatDoorRefSymbol
import Derived.OneCell
namespace Go.Proofs.YtjfifmadldcjjaaGreatDoor.RfW
open Go.RowKit Rf
theorem infoByte : (Tryz.prog.info? 5).map (fun i => (i.zero, i.size, i.bytes)) = some (some (.int .u8 0), 1, 1) := by kernel_rfl
/-- bytes as cells -/
def byteCells (L : List UInt8) : List Value := L.map fun (x : UInt8) => .int .u8 ((x.toNat : Nat) : Int)
theorem byteCells_snoc (L : List UInt8) (x : UInt8) : byteCells (L ++ [x]) = byteCells L ++ [.int .u8 ((x.toNat : Nat) : Int)] := by simp [byteCells]
theorem append_byte {wr : World} {ops : Array Oper} {rest : List Oper} {o : Oper} {a : Act} {Q : Exit → Act → World → Prop} (hgd : o.guard = none) (s x : Operand)
    (ho : o.op = .call { callee := .builtin .append, args := #[s, x], argTypes := #[30, 30] }) (base : Nat) (v : Value) (n : Nat) (xs : List Value) (z : Int)
    (hown : wr.ownsRow base 5 1 v n xs) (hs : a.eval s = v) (hx : a.eval x = .slice (some ⟨wr.heap.size, 0, none⟩) 1 1) (hn : n ≤ 100000000) (hb : base ≤ wr.heap.size)
    (h : ∀ v' w', w'.ownsRow base 5 1 v' (n + 1) (xs ++ [.int .u8 z]) → (wr.alloc (.cells #[.int .u8 z] 5)).grownBy w' v.ownBlock → wpList Tryz.prog ops Q rest (a.put o.dst v') w') :
    wpList Tryz.prog ops Q (o :: rest) a (wr.alloc (.cells #[.int .u8 z] 5)) := by
  obtain ⟨i0, hi, hz0, hz1, hz2⟩ := info_parts infoByte
  refine wpList_append_own _ hgd s x 30 ho base 5 i0 (.int .u8 0) 1 1 Tryz.underlying30 hi hz0 hz1 hz2 rfl (by decide) v n xs hs (hown.alloc _) ⟨wr.heap.size, 0, none⟩ 1 1 [.int .u8 z] hx rfl ?_ ?_ ?_ ?_ ?_ ?_
  · intro j u hj
    match j, hj with
    | 0, hj => simp at hj; subst hj; simp [Addr.add]
  · intro u hu; simp at hu; subst hu; rfl
  · unfold maxLen; omega
  · omega
  · simp; omega
  · intro v' w' h1 h2 _; exact h v' w' h1 h2
/-- but for the two structs and rows of bytes from base on nothing has turned -/
structure Eff (base rb ub : Nat) (w w' : World) : Prop where
  os : w'.os = w.os
  tape : w'.tape = w.tape
  output : w'.output = w.output
  size : w.heap.size ≤ w'.heap.size
  low : ∀ k, k < base → k ≠ rb → k ≠ ub → w'.heap[k]? = w.heap[k]?
  other : ∀ k cur T f, w.heap[k]? = some (.cells cur T f) → T ≠ 5 → k ≠ rb → k ≠ ub → w'.heap[k]? = w.heap[k]?
theorem Eff.refl (base rb ub : Nat) (w : World) : Eff base rb ub w w := ⟨rfl, rfl, rfl, Nat.le_refl _, fun _ _ _ _ => rfl, fun _ _ _ _ _ _ _ _ => rfl⟩
theorem Eff.trans {base rb ub : Nat} {u v w : World} (h : Eff base rb ub u v) (k : Eff base rb ub v w) : Eff base rb ub u w :=
  ⟨k.os.trans h.os, k.tape.trans h.tape, k.output.trans h.output, Nat.le_trans h.size k.size, fun i a b c => (k.low i a b c).trans (h.low i a b c),
   fun i cur T f e hT a b => by
     have h1 := h.other i cur T f e hT a b
     exact (k.other i cur T f (h1.trans e) hT a b).trans h1⟩
theorem Eff.drewN {base rb ub : Nat} {u v : World} (h : Eff base rb ub u v) (n : Nat) : Eff base rb ub u (v.drewN n) := ⟨h.os, h.tape, h.output, h.size, h.low, h.other⟩
theorem Eff.drew {base rb ub : Nat} {u v : World} (h : Eff base rb ub u v) : Eff base rb ub u v.drew := ⟨h.os, h.tape, h.output, h.size, h.low, h.other⟩
theorem Eff.set {base rb ub : Nat} {u v : World} (h : Eff base rb ub u v) (b o : Nat) (hb : b = rb ∨ b = ub) (x : Value) : Eff base rb ub u (v.setCell ⟨b, o, none⟩ x) :=
  ⟨h.os, h.tape, h.output, by simpa using h.size,
   fun k a e f => (Below.heap_setCell v ⟨b, o, none⟩ x k (by rcases hb with rfl | rfl <;> assumption)).trans (h.low k a e f),
   fun k cur T f e hT a c => (Below.heap_setCell v ⟨b, o, none⟩ x k (by rcases hb with rfl | rfl <;> assumption)).trans (h.other k cur T f e hT a c)⟩
theorem Only.eff {base rb ub : Nat} {w w' : World} (h : Only rb w w') : Eff base rb ub w w' :=
  ⟨h.os, h.tape, h.output, Nat.le_of_eq h.size.symm, fun k _ a _ => h.block k a, fun k _ _ _ _ _ a _ => h.block k a⟩
/-- the document's unpacking in memory: the row in block rb, the struct in block ub, the bytes in a row from base on -/
def UIs (w : World) (base rb ub : Nat) (s : ByteArray) (win most : Nat) (u : US) : Prop :=
  RowIs w rb s u.st ∧ rb < base ∧ ub < base ∧ rb ≠ ub ∧ base ≤ w.heap.size ∧ u.out.length ≤ most ∧
  ∃ v, w.heap[ub]? = some (.cells #[.pointer (some ⟨rb, 0, none⟩), v, .int .i64 (win : Int), .int .i64 (most : Int)] 48 (0, 0)) ∧ w.ownsRow base 5 1 v u.out.length (byteCells u.out)
/-- the row alone has turned -/
theorem UIs.row {w w' : World} {base rb ub win most : Nat} {s : ByteArray} {u : US} (h : UIs w base rb ub s win most u) (ho : Only rb w w') (st : RS) (hR : RowIs w' rb s st) : UIs w' base rb ub s win most ⟨st, u.out⟩ := by
  obtain ⟨_, h1, h2, h3, h4, h5, v, h6, h7⟩ := h
  refine ⟨hR, h1, h2, h3, by rw [ho.size]; exact h4, h5, v, (ho.block ub (Ne.symm h3)).trans h6, ?_⟩
  obtain ⟨a, b⟩ := h7
  refine ⟨a, ?_⟩
  rcases b with b | ⟨g, cap, cur, e1, e2, e3, r⟩
  · exact .inl b
  · exact .inr ⟨g, cap, cur, e1, e2, (ho.block g (by omega)).trans e3, r⟩
theorem own_shape {w : World} {base e size n : Nat} {v : Value} {xs : List Value} (h : w.ownsRow base e size v (n + 1) xs) : ∃ g cap, v = .slice (some ⟨g, 0, none⟩) (n + 1) cap := by
  rcases h.2 with h | ⟨g, cap, _, h, _⟩
  · omega
  · exact ⟨g, cap, h⟩
/-- a block that an append does not touch -/
theorem grown_cell {wr w' : World} {blk : Obj} {row : Option Nat} {k : Nat} {cur : Array Value} {T : TypeId} (hg : (wr.alloc blk).grownBy w' row) (h : wr.heap[k]? = some (.cells cur T (0, 0))) (hne : some k ≠ row) :
    w'.heap[k]? = some (.cells cur T (0, 0)) ∧ ∀ o, w'.frozen? ⟨k, o, none⟩ = false := by
  have hk := lt_of_blk h
  have e : w'.heap[k]? = some (.cells cur T (0, 0)) := ((hg.block k (by simp; omega) hne).trans (Below.heap_alloc wr blk k hk)).trans h
  exact ⟨e, fun o => by simp [World.frozen?, e]⟩
theorem put_end {w w1 : World} {base rb ub win most : Nat} {s : ByteArray} {st : RS} {out : List UInt8} {x : UInt8} {v v' : Value} {blk : Obj} {n' : Nat} (nq : Nat)
    (hU : UIs w base rb ub s win most ⟨st, out⟩) (hblk : w.heap[ub]? = some (.cells #[.pointer (some ⟨rb, 0, none⟩), v, .int .i64 (win : Int), .int .i64 (most : Int)] 48 (0, 0)))
    (hown : w.ownsRow base 5 1 v out.length (byteCells out)) (hg : ((w.drewN nq).alloc blk).grownBy w1 v.ownBlock) (hn : n' = out.length + 1)
    (hown' : w1.ownsRow base 5 1 v' n' (byteCells out ++ [.int .u8 ((x.toNat : Nat) : Int)])) (hlt : out.length < most) :
    UIs (w1.setCell ⟨ub, 1, none⟩ v') base rb ub s win most ⟨st, out ++ [x]⟩ ∧ Eff base rb ub w (w1.setCell ⟨ub, 1, none⟩ v') := by
  subst hn
  obtain ⟨hR, h1, h2, h3, h4, _, _⟩ := hU
  have hsame : ∀ k, k < w.heap.size → some k ≠ v.ownBlock → w1.heap[k]? = w.heap[k]? := fun k hk hne =>
    (hg.block k (by simp; exact Nat.lt_succ_of_lt hk) hne).trans (Below.heap_alloc (w.drewN nq) blk k hk)
  have hlow : ∀ k, k < base → w1.heap[k]? = w.heap[k]? := fun k hk => hsame k (by omega) (fun e => by have := (hown.lt k e.symm).1; omega)
  have hsz : w.heap.size ≤ w1.heap.size := by have := hg.size; simp at this; exact Nat.le_of_succ_le this
  refine ⟨⟨?_, h1, h2, h3, by simp; omega, by simp; omega, v', ?_, ?_⟩, ⟨hg.os, hg.tape, hg.output, by simpa using hsz, ?_, ?_⟩⟩
  · exact hR.over ((Below.heap_setCell w1 ⟨ub, 1, none⟩ v' rb h3).trans (hlow rb h1))
  · have := (hlow ub h2).trans hblk
    simp [World.setCell, Array.getElem?_modify, this]
  · have := ownsRow_setCell_below hown' (a := ⟨ub, 1, none⟩) h2 v'
    rw [byteCells_snoc, List.length_append]
    exact this
  · intro k hk a b
    exact (Below.heap_setCell w1 ⟨ub, 1, none⟩ v' k b).trans (hlow k hk)
  · intro k cur T f e hT a b
    refine (Below.heap_setCell w1 ⟨ub, 1, none⟩ v' k b).trans (hsame k (Array.getElem?_eq_some_iff.1 e).1 ?_)
    intro e2
    rcases hown.2 with ⟨e3, _⟩ | ⟨g, cap, cu, e3, _, e4, _⟩
    · rw [e3] at e2; simp [Value.ownBlock] at e2
    · rw [e3] at e2
      simp [Value.ownBlock] at e2
      subst e2
      rw [e4] at e
      simp at e
      exact hT e.2.1.symm
set_option maxRecDepth 10000 in
set_option maxHeartbeats 2000000 in
theorem put_any (base rb ub : Nat) (s : ByteArray) (win most : Nat) (u : US) (x : UInt8) (w : World) (hU : UIs w base rb ub s win most u) (hm : most ≤ 16777216) :
    Calls Tryz.prog 44 #[.pointer (some ⟨ub, 0, none⟩), .int .u8 ((x.toNat : Nat) : Int)] w fun e w' => e = .returned (.tuple #[]) ∧ UIs w' base rb ub s win most (putT most x u) ∧ Eff base rb ub w w' := by
  have hU0 := hU
  obtain ⟨hR, hrb, hub, hne, hbw, hol, v, hblk, hown⟩ := hU
  have hu0 : w.cell? ⟨ub, 0, none⟩ = some (.pointer (some ⟨rb, 0, none⟩)) := by simp [World.cell?, hblk]
  have hu1 : w.cell? ⟨ub, 1, none⟩ = some v := by simp [World.cell?, hblk]
  have hu3 : w.cell? ⟨ub, 3, none⟩ = some (.int .i64 (most : Int)) := by simp [World.cell?, hblk]
  have hr2 := hR.c2
  have hf2 := hR.free 2
  have hfu : w.frozen? ⟨ub, 1, none⟩ = false := by simp [World.frozen?, hblk]
  obtain ⟨⟨p, bad⟩, out⟩ := u
  by_cases hfull : most ≤ out.length
  · have HT : Hid (putT most x ⟨⟨p, bad⟩, out⟩ = ⟨⟨p, true⟩, out⟩) := putT_full most x _ hfull
    have hd : decide ((most : Int) ≤ (out.length : Int)) = true := by simp; omega
    obtain ⟨_, hv⟩ := hown
    rcases hv with ⟨rfl, hv⟩ | ⟨g, cap, cur, rfl, hv⟩
    · have hl0 : out.length = 0 := hv
      have hd0 : decide ((most : Int) ≤ 0) = true := by simp; omega
      go_enter Tryz.func44, Tryz.ntmps44
      go_wp2
      go_quiet (fail)
      go_wp2
      go_end0
      exact ⟨rfl, by rw [HT.out]; exact hU0.row (((Only.refl rb w).drewN nq).setCell 2 _) ⟨p, true⟩ ((hR.drewN nq).set2 true), ((Eff.refl base rb ub w).drewN nq).set rb 2 (.inl rfl) _⟩
    · clear hv
      go_enter Tryz.func44, Tryz.ntmps44
      go_wp2
      go_quiet (fail)
      go_wp2
      go_end0
      exact ⟨rfl, by rw [HT.out]; exact hU0.row (((Only.refl rb w).drewN nq).setCell 2 _) ⟨p, true⟩ ((hR.drewN nq).set2 true), ((Eff.refl base rb ub w).drewN nq).set rb 2 (.inl rfl) _⟩
  · cases bad
    · have HT : Hid (putT most x ⟨⟨p, false⟩, out⟩ = ⟨⟨p, false⟩, out ++ [x]⟩) := putT_go most x _ hfull rfl
      have hd : decide ((most : Int) ≤ (out.length : Int)) = false := by simp; omega
      have hown0 := hown
      have holt : out.length < most := by omega
      have hlo : out.length ≤ 100000000 := by omega
      obtain ⟨_, hv⟩ := hown
      rcases hv with ⟨rfl, hv⟩ | ⟨g, cap, cur, rfl, hv⟩
      · have hl0 : out.length = 0 := hv
        have hd0 : decide ((most : Int) ≤ 0) = false := by simp; omega
        go_enter Tryz.func44, Tryz.ntmps44
        go_wp2
        go_quiet (fail)
        go_wp2_with (first
          | (at_builtin; refine append_byte rfl _ _ rfl base _ out.length (byteCells out) ((x.toNat : Nat) : Int) (show (w.drewN nq).ownsRow _ _ _ _ _ _ from hown0) rfl rfl hlo hbw ?_; go_must (intro v' w1 hown' hg; obtain ⟨g', cap', rfl⟩ := own_shape hown'; have hgu := grown_cell hg (show (w.drewN nq).heap[ub]? = _ from hblk) (by simp [Value.ownBlock]); have hgf := hgu.2 1; have hgc : w1.cell? ⟨ub, 1, none⟩ = some (.slice none 0 0) := by rw [cell_of_block hgu.1 1]; rfl))
          | go_in)
        go_end0
        have e1 : out.length + 1 = 1 := by omega
        rw [e1] at hown'
        have hfin := put_end nq hU0 hblk hown0 hg e1.symm hown' holt
        exact ⟨rfl, by rw [HT.out]; exact hfin.1, hfin.2⟩
      · have hgb : base ≤ g := hv.1
        go_enter Tryz.func44, Tryz.ntmps44
        go_wp2
        go_quiet (fail)
        go_wp2_with (first
          | (at_builtin; refine append_byte rfl _ _ rfl base _ out.length (byteCells out) ((x.toNat : Nat) : Int) (show (w.drewN nq).ownsRow _ _ _ _ _ _ from hown0) rfl rfl hlo hbw ?_; go_must (intro v' w1 hown' hg; obtain ⟨g', cap', rfl⟩ := own_shape hown'; have hgu := grown_cell hg (show (w.drewN nq).heap[ub]? = _ from hblk) (by simp [Value.ownBlock]; omega); have hgf := hgu.2 1; have hgc : w1.cell? ⟨ub, 1, none⟩ = some (.slice (some ⟨g, 0, none⟩) out.length cap) := by rw [cell_of_block hgu.1 1]; rfl))
          | go_in)
        go_end0
        have hfin := put_end nq hU0 hblk hown0 hg rfl hown' holt
        exact ⟨rfl, by rw [HT.out]; exact hfin.1, hfin.2⟩
    · have HT : Hid (putT most x ⟨⟨p, true⟩, out⟩ = ⟨⟨p, true⟩, out⟩) := putT_bad most x _ hfull rfl
      have hd : decide ((most : Int) ≤ (out.length : Int)) = false := by simp; omega
      obtain ⟨_, hv⟩ := hown
      rcases hv with ⟨rfl, hv⟩ | ⟨g, cap, cur, rfl, hv⟩
      · have hl0 : out.length = 0 := hv
        have hd0 : decide ((most : Int) ≤ 0) = false := by simp; omega
        go_enter Tryz.func44, Tryz.ntmps44
        go_wp2
        go_quiet (fail)
        go_wp2
        go_end0
        exact ⟨rfl, by rw [HT.out]; exact hU0.row ((Only.refl rb w).drewN nq) ⟨p, true⟩ (hR.drewN nq), (Eff.refl base rb ub w).drewN nq⟩
      · clear hv
        go_enter Tryz.func44, Tryz.ntmps44
        go_wp2
        go_quiet (fail)
        go_wp2
        go_end0
        exact ⟨rfl, by rw [HT.out]; exact hU0.row ((Only.refl rb w).drewN nq) ⟨p, true⟩ (hR.drewN nq), (Eff.refl base rb ub w).drewN nq⟩
theorem put_int (base rb ub : Nat) (s : ByteArray) (win most : Nat) (u : US) (x : UInt8) (a : Int) (ha : ((x.toNat : Nat) : Int) = a) (w : World) (hU : UIs w base rb ub s win most u) (hm : most ≤ 16777216) :
    Calls Tryz.prog 44 #[.pointer (some ⟨ub, 0, none⟩), .int .u8 a] w fun e w' => e = .returned (.tuple #[]) ∧ UIs w' base rb ub s win most (putT most x u) ∧ Eff base rb ub w w' := by
  subst ha; exact put_any base rb ub s win most u x w hU hm
end Go.Proofs.YtjfifmadldcjjaaGreatDoor.RfW
