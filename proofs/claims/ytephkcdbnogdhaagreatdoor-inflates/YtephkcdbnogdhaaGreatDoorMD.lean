/- The walk of the document's block of sort 2. -/
import Derived.Test.YtephkcdbnogdhaaGreatDoorMC
import Derived.Laws.MakeOwn
import Derived.Laws.OwnMore
set_option linter.unusedVariables false
namespace Go.Proofs.YtephkcdbnogdhaaGreatDoor.RfW
open Go.RowKit Rf
/-- the numbers lie in one block of ints, from its head on -/
def RowInts (w : World) (g : Nat) (L : List Nat) : Prop := w.heap[g]? = some (.cells (nums L).toArray 3 (0, 0))
theorem RowInts.cell {w : World} {g : Nat} {L : List Nat} (h : RowInts w g L) (i : Nat) (hi : i < L.length) : w.cell? ⟨g, i, none⟩ = some (.int .i64 ((L.getD i 0 : Nat) : Int)) := by
  rw [cell_of_block h]; simp [nums, List.getD, List.getElem?_eq_getElem hi]
theorem RowInts.free {w : World} {g : Nat} {L : List Nat} (h : RowInts w g L) (o : Nat) : w.frozen? ⟨g, o, none⟩ = false := by simp [World.frozen?, show w.heap[g]? = _ from h]
theorem RowInts.over {w w' : World} {g : Nat} {L : List Nat} (h : RowInts w g L) (e : w'.heap[g]? = w.heap[g]?) : RowInts w' g L := e.trans h
theorem RowInts.set {w : World} {g : Nat} {L : List Nat} (h : RowInts w g L) (i x : Nat) (v : Value) (hv : v = .int .i64 (x : Int)) : RowInts (w.setCell ⟨g, i, none⟩ v) g (L.set i x) := by
  subst hv
  unfold RowInts at *
  simp only [World.setCell, Array.getElem?_modify, h, if_true]
  simp [nums, List.map_set]
theorem RowInts.at {w : World} {g n : Nat} {L : List Nat} (h : RowInts w g L) (hn : L.length = n) : IntsAt w (.slice (some ⟨g, 0, none⟩) n n) L := by
  subst hn
  exact ⟨g, 0, L.length, _, rfl, Nat.le_refl _, h, fun i hi => by simp [nums, List.getD, List.getElem?_eq_getElem hi]⟩
/-- nothing but blocks of ints has turned -/
def SameBut (w w' : World) : Prop := w.heap.size ≤ w'.heap.size ∧ ∀ (k : Nat) (cur : Array Value) (T : TypeId) (f : Nat × Nat), w.heap[k]? = some (Obj.cells cur T f) → T ≠ 3 → w'.heap[k]? = w.heap[k]?
theorem UIs.same {w w' : World} {base rb ub win most : Nat} {s : ByteArray} {u : US} (h : UIs w base rb ub s win most u) (e : SameBut w w') : UIs w' base rb ub s win most u := by
  obtain ⟨hR, h1, h2, h3, h4, h5, v, h6, h7⟩ := h
  refine ⟨hR.over (e.2 rb _ _ _ hR.1 (by decide)), h1, h2, h3, Nat.le_trans h4 e.1, h5, v, (e.2 ub _ _ _ h6 (by decide)).trans h6, ?_⟩
  obtain ⟨a, b⟩ := h7
  refine ⟨a, ?_⟩
  rcases b with b | ⟨g, cap, cur, e1, e2, e3, r⟩
  · exact .inl b
  · exact .inr ⟨g, cap, cur, e1, e2, (e.2 g _ _ _ e3 (by decide)).trans e3, r⟩
theorem CodesAt.same {w w' : World} {v : Value} {cs : List (Nat × List UInt8)} (h : CodesAt w v cs) (e : SameBut w w') : CodesAt w' v cs := CodesAt.over h fun k cur hk => e.2 k cur _ _ hk (by decide)
theorem same_set {w : World} {g : Nat} {cur : Array Value} {f : Nat × Nat} (h : w.heap[g]? = some (Obj.cells cur 3 f)) (o : Nat) (x : Value) : SameBut w (w.setCell ⟨g, o, none⟩ x) := by
  refine ⟨by simp, fun k c T f' e hT => Below.heap_setCell w ⟨g, o, none⟩ x k ?_⟩
  intro hk
  have hk' : k = g := hk
  subst hk'
  rw [h] at e
  simp at e
  exact hT e.2.1.symm
theorem same_alloc (w : World) (o : Obj) : SameBut w (w.alloc o) := ⟨by simp, fun k _ _ _ e _ => Below.heap_alloc w o k (Array.getElem?_eq_some_iff.1 e).1⟩
theorem same_grown {w w' : World} {blk : Obj} {baseL n : Nat} {v : Value} {xs : List Value} (hown : w.ownsRow baseL 3 1 v n xs) (hg : (w.alloc blk).grownBy w' v.ownBlock) : SameBut w w' := by
  refine ⟨size_app hg, fun k cur T f e hT => ?_⟩
  have hk := (Array.getElem?_eq_some_iff.1 e).1
  refine (hg.block k (by simp; exact Nat.lt_succ_of_lt hk) ?_).trans (Below.heap_alloc w blk k hk)
  intro e2
  rcases hown.2 with ⟨e3, _⟩ | ⟨g, cap, cu, e3, _, e4, _⟩
  · rw [e3] at e2; simp [Value.ownBlock] at e2
  · rw [e3] at e2
    simp [Value.ownBlock] at e2
    subst e2
    rw [e4] at e
    simp at e
    exact hT e.2.1.symm
/-- from u's sight only new blocks have turned -/
theorem Eff.next {base rb ub : Nat} {u v w : World} (h : Eff base rb ub u v) (hb : base ≤ u.heap.size) (os : w.os = v.os) (tape : w.tape = v.tape) (output : w.output = v.output) (size : v.heap.size ≤ w.heap.size)
    (e : ∀ k, k < u.heap.size → w.heap[k]? = v.heap[k]?) : Eff base rb ub u w :=
  ⟨os.trans h.os, tape.trans h.tape, output.trans h.output, Nat.le_trans h.size size, fun k hk a b => (e k (by omega)).trans (h.low k hk a b),
   fun k cur T f hk hT a b => (e k (Array.getElem?_eq_some_iff.1 hk).1).trans (h.other k cur T f hk hT a b)⟩
theorem Eff.alloc {base rb ub : Nat} {u v : World} (h : Eff base rb ub u v) (hb : base ≤ u.heap.size) (o : Obj) : Eff base rb ub u (v.alloc o) :=
  h.next hb rfl rfl rfl (by simp) (fun k hk => Below.heap_alloc v o k (Nat.lt_of_lt_of_le hk h.size))
theorem Eff.setNew {base rb ub g : Nat} {u v : World} (h : Eff base rb ub u v) (hb : base ≤ u.heap.size) (hg : u.heap.size ≤ g) (o : Nat) (x : Value) : Eff base rb ub u (v.setCell ⟨g, o, none⟩ x) :=
  h.next hb rfl rfl rfl (by simp) (fun k hk => Below.heap_setCell v ⟨g, o, none⟩ x k (by show k ≠ g; omega))
theorem Eff.app {base rb ub baseL n : Nat} {u v w : World} {blk : Obj} {vv : Value} {xs : List Value} (h : Eff base rb ub u v) (hb : base ≤ u.heap.size) (hL : u.heap.size ≤ baseL) (hown : v.ownsRow baseL 3 1 vv n xs) (hg : (v.alloc blk).grownBy w vv.ownBlock) : Eff base rb ub u w :=
  h.next hb hg.os hg.tape hg.output (size_app hg) (fun k hk => (hg.block k (by simp; exact Nat.lt_succ_of_lt (Nat.lt_of_lt_of_le hk h.size)) (fun e => by have := (hown.lt k e.symm).1; omega)).trans (Below.heap_alloc v blk k (Nat.lt_of_lt_of_le hk h.size)))
/-- the shape of a list of the call's own -/
theorem own_any_shape {w : World} {base e n : Nat} {v : Value} {xs : List Value} (h : w.ownsRow base e 1 v n xs) : ∃ ao cap, v = .slice ao n cap ∧ (0 < n → ∃ g, ao = some ⟨g, 0, none⟩ ∧ n ≤ cap ∧ ∀ i, i < n → w.cell? ⟨g, i, none⟩ = xs[i]?) := by
  rcases h.2 with ⟨rfl, rfl⟩ | ⟨g, cap, cur, rfl, _, hh, hc, _, _, htake⟩
  · exact ⟨none, 0, rfl, fun h => by omega⟩
  · refine ⟨some ⟨g, 0, none⟩, cap, rfl, fun _ => ⟨g, rfl, hc, fun i hi => ?_⟩⟩
    rw [cell_of_block hh, ← htake, List.getElem?_take, if_pos (by omega), Array.getElem?_toList]
theorem own_over {w w' : World} {base n : Nat} {e : TypeId} {v : Value} {xs : List Value} (h : w.ownsRow base e 1 v n xs) (hs : ∀ (k : Nat) (cur : Array Value), w.heap[k]? = some (Obj.cells cur e (0, 0)) → w'.heap[k]? = w.heap[k]?) : w'.ownsRow base e 1 v n xs := by
  obtain ⟨a, b⟩ := h
  refine ⟨a, ?_⟩
  rcases b with b | ⟨g, cap, cur, e1, e2, e3, r⟩
  · exact .inl b
  · exact .inr ⟨g, cap, cur, e1, e2, (hs g cur e3).trans e3, r⟩
theorem own_only {w w' : World} {base base' rb ub win most n : Nat} {s : ByteArray} {u : US} {v : Value} {xs : List Value} (h : w.ownsRow base 3 1 v n xs) (ho : Only rb w w') (hU : UIs w base' rb ub s win most u) : w'.ownsRow base 3 1 v n xs :=
  own_over h fun k cur e => ho.block k (hU.ne e (by decide) (by decide)).1
theorem own_last {w : World} {base g n cap m : Nat} {M : List Nat} (h : w.ownsRow base 3 1 (.slice (some ⟨g, 0, none⟩) n cap) M.length (nums M)) (hm : m = M.length - 1) (h0 : 0 < M.length) : w.cell? ⟨g, m, none⟩ = some (.int .i64 ((M.getD (M.length - 1) 0 : Nat) : Int)) := by
  rcases h.2 with ⟨e, _⟩ | ⟨g', cap', cur, e, _, hh, hc, _, _, htake⟩
  · cases e
  · cases e
    subst hm
    have hlt : M.length - 1 < M.length := by omega
    rw [cell_of_block hh]
    have e : (cur.toList.take (M.length * 1))[M.length - 1]? = (nums M)[M.length - 1]? := by rw [htake]
    rw [List.getElem?_take, if_pos (by omega), Array.getElem?_toList] at e
    rw [e]
    simp [nums, List.getD, List.getElem?_eq_getElem hlt]
theorem ints_take {w : World} {base g n cap : Nat} {M : List Nat} (h : w.ownsRow base 3 1 (.slice (some ⟨g, 0, none⟩) n cap) M.length (nums M)) (a : Nat) (ha : a ≤ M.length) : IntsAt w (.slice (some ⟨g, 0, none⟩) a cap) (M.take a) := by
  rcases h.2 with ⟨e, _⟩ | ⟨g', cap', cur, e, _, hh, hc, _, _, htake⟩
  · cases e
  · cases e
    have hl : (M.take a).length = a := by rw [List.length_take]; omega
    refine ⟨g, 0, cap, cur, by rw [hl], by rw [hl]; omega, hh, fun i hi => ?_⟩
    have hi2 : i < M.length := by omega
    have e : (cur.toList.take (M.length * 1))[i]? = (nums M)[i]? := by rw [htake]
    rw [List.getElem?_take, if_pos (by omega), Array.getElem?_toList] at e
    rw [Nat.zero_add, e]
    have h3 : i < a := by omega
    simp [nums, List.getD, h3, List.getElem?_eq_getElem hi2]
theorem ints_drop {w : World} {base g n cap : Nat} {M : List Nat} (h : w.ownsRow base 3 1 (.slice (some ⟨g, 0, none⟩) n cap) M.length (nums M)) (a : Nat) (ha : a ≤ M.length) : IntsAt w (.slice (some ⟨g, a, none⟩) (M.length - a) (cap - a)) (M.drop a) := by
  rcases h.2 with ⟨e, _⟩ | ⟨g', cap', cur, e, _, hh, hc, _, _, htake⟩
  · cases e
  · cases e
    have hl : (M.drop a).length = M.length - a := List.length_drop
    refine ⟨g, a, cap - a, cur, by rw [hl], by rw [hl]; omega, hh, fun i hi => ?_⟩
    have hi2 : a + i < M.length := by omega
    have e : (cur.toList.take (M.length * 1))[a + i]? = (nums M)[a + i]? := by rw [htake]
    rw [List.getElem?_take, if_pos (by omega), Array.getElem?_toList] at e
    rw [e]
    simp [nums, List.getD, List.getElem?_drop, List.getElem?_eq_getElem hi2]
theorem own_cell {w : World} {base g n cap : Nat} {M : List Nat} (h : w.ownsRow base 3 1 (.slice (some ⟨g, 0, none⟩) n cap) M.length (nums M)) (i : Nat) (hi : i < M.length) : w.cell? ⟨g, i, none⟩ = some (.int .i64 ((M.getD i 0 : Nat) : Int)) := by
  rcases h.2 with ⟨e, _⟩ | ⟨g', cap', cur, e, _, hh, hc, _, _, htake⟩
  · cases e
  · cases e
    rw [cell_of_block hh]
    have e : (cur.toList.take (M.length * 1))[i]? = (nums M)[i]? := by rw [htake]
    rw [List.getElem?_take, if_pos (by omega), Array.getElem?_toList] at e
    rw [e]
    simp [nums, List.getD, List.getElem?_eq_getElem hi]
/-- how many lengths are wanted still; nothing where something is bad -/
def measL (w : World) (b N : Nat) (v : Value) : Nat := match w.cell? ⟨b, 2, none⟩ with
  | some (.bool true) => 0
  | _ => match v with
    | .slice _ n _ => N - n + 1
    | _ => N + 1
theorem measL_bad {w : World} {b N : Nat} {v : Value} {s : ByteArray} {st : RS} (h : RowIs w b s st) (hb : st.bad = true) : measL w b N v = 0 := by
  unfold measL; rw [h.c2, hb]
theorem measL_go {w : World} {b N : Nat} {ao : Option Addr} {n cap : Nat} {s : ByteArray} {st : RS} (h : RowIs w b s st) (hb : st.bad = false) : measL w b N (.slice ao n cap) = N - n + 1 := by
  unfold measL; rw [h.c2, hb]
def zero19 : Array Value := (nums (List.replicate 19 0)).toArray
theorem made19 : madeCells #[.int .i64 0] 19 = zero19 := by
  apply Array.toList_inj.1
  rw [toList_madeCells_one]; rfl
theorem order_lt (k : Nat) : order.getD k 0 < 19 := getD_le order 18 (by decide) k |> Nat.lt_succ_of_le
theorem order_cells : (#[.int .i64 16, .int .i64 17, .int .i64 18, .int .i64 0, .int .i64 8, .int .i64 7, .int .i64 9, .int .i64 6, .int .i64 10, .int .i64 5, .int .i64 11, .int .i64 4, .int .i64 12, .int .i64 3, .int .i64 13, .int .i64 2, .int .i64 14, .int .i64 1, .int .i64 15] : Array Value) = (nums order).toArray := by rfl
set_option maxRecDepth 10000 in
set_option maxHeartbeats 8000000 in
theorem own_any (base rb ub : Nat) (s : ByteArray) (win most : Nat) (u : US) (w : World) (hU : UIs w base rb ub s win most u) (hs : s.size ≤ 140737488351232) (hm : most ≤ 16777216) (hwin : win ≤ 32768) :
    Calls Tryz.prog 84 #[.pointer (some ⟨ub, 0, none⟩)] w fun e w' => e = .returned (.tuple #[]) ∧ UIs w' base rb ub s win most (ownT s win most u) ∧ Eff base rb ub w w' := by
  have hv0 := hU.u0
  go_enter Tryz.func84, Tryz.ntmps84
  go_wp2_with fail
  refine (number_any rb s u.st 5 _ rfl _ hU.1 hs (by omega)).mono ?_
  rintro e w1 ⟨rfl, hR1, hO1⟩
  have hU1 := hU.row hO1 _ hR1
  have hE1 : Eff base rb ub w w1 := hO1.eff (base := base) (ub := ub)
  have hb1 : (numT s 5 u.st).1 < 32 := numT_lt s 5 u.st
  go_wp2_with fail
  refine (number_any rb s _ 5 _ rfl _ hU1.1 hs (by omega)).mono ?_
  rintro e w2 ⟨rfl, hR2, hO2⟩
  have hU2 := hU1.row hO2 _ hR2
  have hE2 := hE1.trans (hO2.eff (base := base) (ub := ub))
  have hb2 : (numT s 5 (numT s 5 u.st).2).1 < 32 := numT_lt s 5 _
  go_wp2_with fail
  refine (number_any rb s _ 4 _ rfl _ hU2.1 hs (by omega)).mono ?_
  rintro e w3 ⟨rfl, hR3, hO3⟩
  have hU3 := hU2.row hO3 _ hR3
  have hE3 := hE2.trans (hO3.eff (base := base) (ub := ub))
  have hb3 : (numT s 4 (numT s 5 (numT s 5 u.st).2).2).1 < 16 := numT_lt s 4 _
  have HT : Hid (ownT s win most u = finT s win most ((numT s 5 u.st).1 + 257) ((numT s 5 (numT s 5 u.st).2).1 + 1) u.out (lensT s ((numT s 5 u.st).1 + 257) ((numT s 5 (numT s 5 u.st).2).1 + 1) ((numT s 4 (numT s 5 (numT s 5 u.st).2).2).1 + 4) (hdrSt ((numT s 5 u.st).1 + 257) ((numT s 5 (numT s 5 u.st).2).1 + 1) (numT s 4 (numT s 5 (numT s 5 u.st).2).2).2)).1 (lensT s ((numT s 5 u.st).1 + 257) ((numT s 5 (numT s 5 u.st).2).1 + 1) ((numT s 4 (numT s 5 (numT s 5 u.st).2).2).1 + 4) (hdrSt ((numT s 5 u.st).1 + 257) ((numT s 5 (numT s 5 u.st).2).1 + 1) (numT s 4 (numT s 5 (numT s 5 u.st).2).2).2)).2) := (rfl : _ = _)
  clear hU1 hU2 hE1 hE2 hR1 hR2 hR3 hO1 hO2 hO3 hv0
  generalize numT s 4 (numT s 5 (numT s 5 u.st).2).2 = R3 at *
  generalize (numT s 5 (numT s 5 u.st).2).1 = b0 at *
  generalize (numT s 5 u.st).1 = a0 at *
  obtain ⟨n0, st3⟩ := R3
  simp only at hU3 hb3
  obtain ⟨T, hTT⟩ : ∃ T, T = ownT s win most u := ⟨_, rfl⟩
  have HTT : Hid _ := hTT
  rw [← hTT] at HT
  clear hTT
  generalize u.out = out at *
  have hc3 := hU3.1.c2
  have hf3 := hU3.1.free 2
  obtain ⟨fb, hfb⟩ : ∃ fb : Bool, fb = decide (286 < a0 + 257 ∨ 30 < b0 + 1) := ⟨_, rfl⟩
  have HFB : Hid _ := hfb
  clear hfb
  go_upto_region 4 with fail
  go_cut [40] (fun v wx => v = .bool fb ∧ wx = w3)
  case first =>
    as_aux_lemma =>
      by_cases hfa : 286 < a0 + 257
      · go_wp2
        go_meet
        case rel => exact ⟨by rw [HFB.out]; exact congrArg Value.bool (by rw [Bool.eq_iff_iff]; simp; omega), rfl⟩
      · by_cases hfl : 30 < b0 + 1
        · go_wp2
          go_meet
          case rel => exact ⟨by rw [HFB.out]; exact congrArg Value.bool (by rw [Bool.eq_iff_iff]; simp; omega), rfl⟩
        · go_wp2
          go_meet
          case rel => exact ⟨by rw [HFB.out]; exact congrArg Value.bool (by rw [Bool.eq_iff_iff]; simp; omega), rfl⟩
  case rest =>
    obtain ⟨rfl, hw3⟩ := hcut
    have hw3 := hw3.symm
    subst hw3
    go_upto_if 40 with fail
    go_cut [] (fun wx => UIs wx base rb ub s win most ⟨hdrSt (a0 + 257) (b0 + 1) st3, out⟩ ∧ Eff base rb ub w wx)
    case first =>
      as_aux_lemma =>
        cases fb
        · have HI : Hid (hdrSt (a0 + 257) (b0 + 1) st3 = st3) := if_neg (of_decide_eq_false HFB.out.symm)
          go_wp2
          go_meet
          case rel => exact ⟨by rw [HI.out]; exact hU3, hE3⟩
        · have HI : Hid (hdrSt (a0 + 257) (b0 + 1) st3 = ⟨st3.pos, true⟩) := if_pos (of_decide_eq_true HFB.out.symm)
          go_wp2
          go_meet
          case rel => exact ⟨by rw [HI.out]; exact hU3.row ((Only.refl rb w3).setCell 2 _) _ (hU3.1.set2 true), hE3.set rb 2 (.inl rfl) _⟩
    case rest =>
      obtain ⟨hU4, hE4⟩ := hcut
      clear hU3 hE3 hc3 hf3 HFB
      generalize hdrSt (a0 + 257) (b0 + 1) st3 = st4 at *
      have hn1 : n0 + 4 ≤ 19 := by omega
      obtain ⟨i0, hi, hz0, hz1, hz2⟩ := info_parts infoInt
      have hmk : ∀ wx : World, (Instr.makeSlice 29 (.int .i64 19) (.int .i64 19)).run Tryz.prog wx = .ok (.slice (some ⟨wx.heap.size, 0, none⟩) 19 19) (wx.alloc (.cells zero19 3)) := fun wx => by
        have h := run_make (P := Tryz.prog) wx 29 3 i0 _ Tryz.underlying29 hi hz0 .i64 .i64 19 19 (by omega) (by omega) (by rw [hz2]; omega) (by omega)
        rw [hz1] at h
        rw [← made19]
        simpa [Value.cells] using h
      clear hi hz0 hz1 hz2
      have hUb : base ≤ w.heap.size := hU.2.2.2.2.1
      go_upto_region 8 with fail
      have hEO := (hE4.alloc hUb (.cells #[.int .i64 16, .int .i64 17, .int .i64 18, .int .i64 0, .int .i64 8, .int .i64 7, .int .i64 9, .int .i64 6, .int .i64 10, .int .i64 5, .int .i64 11, .int .i64 4, .int .i64 12, .int .i64 3, .int .i64 13, .int .i64 2, .int .i64 14, .int .i64 1, .int .i64 15] 3)).alloc hUb (.cells zero19 3)
      have hUO := (hU4.same (same_alloc _ (.cells #[.int .i64 16, .int .i64 17, .int .i64 18, .int .i64 0, .int .i64 8, .int .i64 7, .int .i64 9, .int .i64 6, .int .i64 10, .int .i64 5, .int .i64 11, .int .i64 4, .int .i64 12, .int .i64 3, .int .i64 13, .int .i64 2, .int .i64 14, .int .i64 1, .int .i64 15] 3))).same (same_alloc _ (.cells zero19 3))
      have hRO : RowInts ((wc.alloc (.cells #[.int .i64 16, .int .i64 17, .int .i64 18, .int .i64 0, .int .i64 8, .int .i64 7, .int .i64 9, .int .i64 6, .int .i64 10, .int .i64 5, .int .i64 11, .int .i64 4, .int .i64 12, .int .i64 3, .int .i64 13, .int .i64 2, .int .i64 14, .int .i64 1, .int .i64 15] 3)).alloc (.cells zero19 3)) wc.heap.size order := by
        unfold RowInts
        rw [Below.heap_alloc _ _ _ (by simp), ← order_cells]
        exact (MapKept.heap_alloc wc _).1
      have hRZ : RowInts ((wc.alloc (.cells #[.int .i64 16, .int .i64 17, .int .i64 18, .int .i64 0, .int .i64 8, .int .i64 7, .int .i64 9, .int .i64 6, .int .i64 10, .int .i64 5, .int .i64 11, .int .i64 4, .int .i64 12, .int .i64 3, .int .i64 13, .int .i64 2, .int .i64 14, .int .i64 1, .int .i64 15] 3)).alloc (.cells zero19 3)) (wc.heap.size + 1) (List.replicate 19 0) := by
        have h := (MapKept.heap_alloc (wc.alloc (.cells #[.int .i64 16, .int .i64 17, .int .i64 18, .int .i64 0, .int .i64 8, .int .i64 7, .int .i64 9, .int .i64 6, .int .i64 10, .int .i64 5, .int .i64 11, .int .i64 4, .int .i64 12, .int .i64 3, .int .i64 13, .int .i64 2, .int .i64 14, .int .i64 1, .int .i64 15] 3)) (.cells zero19 3)).1
        rw [World.size_alloc] at h
        exact h
      have hwg : w.heap.size ≤ wc.heap.size := hE4.size
      clear hmk hU4 hE4
      generalize (wc.alloc (.cells #[.int .i64 16, .int .i64 17, .int .i64 18, .int .i64 0, .int .i64 8, .int .i64 7, .int .i64 9, .int .i64 6, .int .i64 10, .int .i64 5, .int .i64 11, .int .i64 4, .int .i64 12, .int .i64 3, .int .i64 13, .int .i64 2, .int .i64 14, .int .i64 1, .int .i64 15] 3)).alloc (.cells zero19 3) = wO at *
      generalize wc.heap.size = gO at *
      have hz19 : (List.replicate 19 (0 : Nat)).length = 19 := List.length_replicate
      have hzle : ∀ x ∈ List.replicate 19 (0 : Nat), x ≤ 15 := fun x hx => by rw [List.eq_of_mem_replicate hx]; omega
      obtain ⟨z19, hzz⟩ : ∃ z, z = List.replicate 19 (0 : Nat) := ⟨_, rfl⟩
      rw [← hzz] at hz19 hzle hRZ
      have Z19 : Hid _ := hzz
      clear hzz
      go_wp2
      go_loopw [8] (fun i wr => ∃ (k j : Nat) (L : List Nat) (t : RS), k + j = n0 + 4 ∧ smallL s (n0 + 4) 0 z19 st4 = smallL s j k L t ∧ L.length = 19 ∧ i = .int .i64 k ∧ UIs wr base rb ub s win most ⟨t, out⟩ ∧ Eff base rb ub w wr ∧ RowInts wr gO order ∧ RowInts wr (gO + 1) L) (fun i _ => n0 + 4 - (intOf i).toNat)
      case atStart => exact ⟨0, n0 + 4, z19, st4, by omega, rfl, hz19, rfl, hUO, hEO, hRO, hRZ⟩
      case round =>
        obtain ⟨k, j, L, t, hkj, hS, hL19, rfl, hUk, hEk, hRk, hLk⟩ := hrel
        have hk19 : k ≤ 19 := by omega
        cases j with
        | zero =>
          have hkn : ¬ k < n0 + 4 := by omega
          have HS : Hid (smallL s (n0 + 4) 0 z19 st4 = (L, t)) := hS
          have hL15 : ∀ x ∈ L, x ≤ 15 := by
            have h := smallL_le s (n0 + 4) 0 z19 st4 hzle
            rw [HS.out] at h
            exact h
          have HT2 : Hid (T = finT s win most (a0 + 257) (b0 + 1) out (lensF s (a0 + 257 + (b0 + 1)) (codesT L).cs (a0 + 257 + (b0 + 1) + 1) [] (smSt (codesT L).much t)).1 (lensF s (a0 + 257 + (b0 + 1)) (codesT L).cs (a0 + 257 + (b0 + 1) + 1) [] (smSt (codesT L).much t)).2) := (by rw [HT.out]; unfold lensT; rw [← Z19.out, HS.out] : _ = _)
          clear hS hkj
          go_wp2_with fail
          refine (codes_any L _ _ (hLk.at hL19) (by omega) (getD_le L 15 hL15)).mono ?_
          rintro e w6 ⟨vc, rfl, hC6, hB6⟩
          have hU6 := hUk.below hB6
          have hE6 := hEk.trans (eff_of_below (rb := rb) (ub := ub) hUk.2.2.2.2.1 hB6)
          have hcl := codesT_len L (by omega)
          have hsy : ∀ st, (symT s (codesT L).cs st).1 < 19 := fun st => by have := symT_sym s L st (by omega); omega
          have hmuch : (codesT L).much ≤ 1000000000 := codesT_much L (by omega)
          clear hRk hLk hUk hEk hB6 HS hL15 hL19 hkn
          generalize (codesT L).cs = cs at *
          generalize (codesT L).much = mu at *
          have hc6 := hU6.1.c2
          have hf6 := hU6.1.free 2
          go_upto_if 65 with fail
          go_cut [] (fun wx => UIs wx base rb ub s win most ⟨smSt mu t, out⟩ ∧ Eff base rb ub w wx ∧ CodesAt wx vc cs)
          case first =>
            as_aux_lemma =>
              by_cases hmu : mu = 32768
              · have HI : Hid (smSt mu t = t) := if_pos hmu
                have hmb : ((mu : Int) != 32768) = false := by rw [bne_eq_false_iff_eq]; omega
                clear hmu
                go_wp2
                go_meet
                case rel => exact ⟨by rw [HI.out]; exact hU6, hE6, hC6⟩
              · have HI : Hid (smSt mu t = ⟨t.pos, true⟩) := if_neg hmu
                have hmb : ((mu : Int) != 32768) = true := by rw [bne_iff_ne]; omega
                have hE7 : Eff base rb ub w6 (w6.setCell ⟨rb, 2, none⟩ (.bool true)) := (Eff.refl base rb ub w6).set rb 2 (.inl rfl) _
                clear hmu
                go_wp2
                go_meet
                case rel => exact ⟨by rw [HI.out]; exact hU6.row ((Only.refl rb w6).setCell 2 _) _ (hU6.1.set2 true), hE6.trans hE7, CodesAt.eff hC6 hU6 hE7⟩
          case rest =>
            obtain ⟨hU7, hE7, hC7⟩ := hcut
            clear hU6 hE6 hC6 hc6 hf6 HT hUO hEO hRO hRZ
            generalize smSt mu t = st6 at *
            have hNb : a0 + 257 + (b0 + 1) ≤ 320 := by omega
            obtain ⟨N, hN⟩ : ∃ N, N = a0 + 257 + (b0 + 1) := ⟨_, rfl⟩
            have hN1 : N ≤ 320 := by omega
            have hN2 : ((a0 : Int) + 257 + ((b0 : Int) + 1)) = (N : Int) := by omega
            have HT3 : Hid (T = finT s win most (a0 + 257) (b0 + 1) out (lensF s N cs (N + 1) [] st6).1 (lensF s N cs (N + 1) [] st6).2) := (by rw [HT2.out, hN] : _ = _)
            have HN : Hid _ := hN
            clear hN HT2
            obtain ⟨baseL, hbl⟩ : ∃ b, b = wc.heap.size := ⟨_, rfl⟩
            have hwb : w.heap.size ≤ baseL := by rw [hbl]; exact hE7.size
            have hbw : baseL ≤ wc.heap.size := Nat.le_of_eq hbl
            clear hbl
            go_wp2_with fail
            go_loopw [11] (fun v wr => ∃ (f : Nat) (M : List Nat) (t : RS), lensF s N cs (N + 1) [] st6 = lensF s N cs f M t ∧ (t.bad = true ∨ N - M.length < f) ∧ (∀ x ∈ M, x ≤ 15) ∧ M.length ≤ 460 ∧ wr.ownsRow baseL 3 1 v M.length (nums M) ∧ UIs wr base rb ub s win most ⟨t, out⟩ ∧ Eff base rb ub w wr ∧ CodesAt wr vc cs ∧ baseL ≤ wr.heap.size) (fun v wr => measL wr rb N v)
            case atStart => exact ⟨N + 1, [], st6, rfl, .inr (by simp), (by intro x hx; cases hx), by simp, World.ownsRow_nil _ _ _ _, hU7, hE7, hC7, hbw⟩
            case round =>
              obtain ⟨f, M, t7, hF, hfu, hM15, hMl, hown, hUm, hEm, hCm, hbm⟩ := hrel
              obtain ⟨ao, cap, rfl, hsh⟩ := own_any_shape hown
              have hcm := hUm.1.c2
              obtain ⟨tp, tb⟩ := t7
              by_cases hMN : M.length < N
              · cases tb
                · have hMi : (M.length : Int) < (N : Int) := by omega
                  obtain ⟨f, rfl⟩ : ∃ g, f = g + 1 := ⟨f - 1, by have h9 : N - M.length < f := (by simpa using hfu); omega⟩
                  have hfu' : N - M.length < f + 1 := by simpa using hfu
                  have HF : Hid _ := hF
                  clear hF hfu
                  go_wp2_with fail
                  refine (symbol_any rb s ⟨tp, false⟩ cs vc _ hUm.1 hs hCm hcl).mono ?_
                  rintro e w8 ⟨rfl, hR8, hO8⟩
                  have hE8' : Eff base rb ub _ w8 := hO8.eff (base := base) (ub := ub)
                  have hU8 := hUm.row hO8 _ hR8
                  have hC8 := CodesAt.eff hCm hUm hE8'
                  have hE8 := hEm.trans hE8'
                  have hown8 := own_only hown hO8 hUm
                  have hb8 : baseL ≤ w8.heap.size := by rw [hO8.size]; exact hbm
                  have hy19 := hsy ⟨tp, false⟩
                  have HG : Hid (∀ v k st', lenStep s M (symT s cs ⟨tp, false⟩).1 (symT s cs ⟨tp, false⟩).2 = .inl (v, k, st') → lensF s N cs (N + 1) [] st6 = lensF s N cs f (M ++ List.replicate k v) st') := fun v k st' e => HF.out.trans (lensF_go s N cs f M ⟨tp, false⟩ hMN rfl v k st' e)
                  have HR : Hid (∀ st', lenStep s M (symT s cs ⟨tp, false⟩).1 (symT s cs ⟨tp, false⟩).2 = .inr st' → lensF s N cs (N + 1) [] st6 = (M, st')) := fun st' e => HF.out.trans (lensF_stop s N cs f M ⟨tp, false⟩ hMN rfl st' e)
                  clear HF hE8' hR8 hO8 hC7 hU7 hE7
                  generalize symT s cs ⟨tp, false⟩ = z at *
                  obtain ⟨y, zst⟩ := z
                  simp only at hy19 hU8
                  by_cases hy16 : y = 16
                  · as_aux_lemma =>
                      subst hy16
                      by_cases hM0 : M.length = 0
                      · have HB : Hid (lensF s N cs (N + 1) [] st6 = (M, ⟨(numT s 2 zst).2.pos, true⟩)) := HR.out _ (by unfold lenStep; rw [if_pos rfl, if_pos hM0])
                        have hne0 : ((M.length : Int) == 0) = true := by rw [beq_iff_eq]; omega
                        clear HG HR
                        go_wp2_with fail
                        refine (number_any rb s zst 2 _ rfl _ hU8.1 hs (by omega)).mono ?_
                        rintro e wn ⟨rfl, hRn, hOn⟩
                        have hEn' : Eff base rb ub _ wn := hOn.eff (base := base) (ub := ub)
                        have hUn := hU8.row hOn _ hRn
                        have hCn := CodesAt.eff hC8 hU8 hEn'
                        have hEn := hE8.trans hEn'
                        have hownn := own_only hown8 hOn hU8
                        have hbn : baseL ≤ wn.heap.size := by rw [hOn.size]; exact hb8
                        have hcn := hUn.1.c2
                        have hfn := hUn.1.free 2
                        have hO9 : Only rb wn (wn.setCell ⟨rb, 2, none⟩ (.bool true)) := (Only.refl rb wn).setCell 2 _
                        have hE9' : Eff base rb ub wn (wn.setCell ⟨rb, 2, none⟩ (.bool true)) := hO9.eff (base := base) (ub := ub)
                        have hU9 := hUn.row hO9 _ (hUn.1.set2 true)
                        have hC9 := CodesAt.eff hCn hUn hE9'
                        have hown9 := own_only hownn hO9 hUn
                        have HM0 : Hid _ := hM0
                        clear hRn hOn hEn' hown8 hU8 hE8 hC8 hb8 hM0
                        go_wp2
                        go_roundw
                        case rel => exact ⟨f, M, ⟨(numT s 2 zst).2.pos, true⟩, by rw [HB.out, lensF_bad _ _ _ _ _ _ rfl], .inl rfl, hM15, hMl, (by have h9 := hown9; rw [HM0.out] at h9 ⊢; exact h9), hU9, hEn.trans hE9', hC9, by simpa using hbn⟩
                        case measure => rw [measL_go hUm.1 rfl, measL_bad hU9.1 rfl]; omega
                      · have hl0 : 0 < M.length := by omega
                        obtain ⟨g9, rfl, hcap9, hcel9⟩ := hsh hl0
                        have HK0 : Hid (lensF s N cs (N + 1) [] st6 = lensF s N cs f (M ++ List.replicate (3 + (numT s 2 zst).1) (M.getD (M.length - 1) 0)) (numT s 2 zst).2) := HG.out _ (3 + (numT s 2 zst).1) (numT s 2 zst).2 (by unfold lenStep; rw [if_pos rfl, if_neg (by omega)])
                        clear HG HR
                        have hlv0 : M.getD (M.length - 1) 0 ≤ 15 := getD_le M 15 hM15 _
                        go_wp2_with fail
                        refine (number_any rb s zst 2 _ rfl _ hU8.1 hs (by omega)).mono ?_
                        rintro e wn ⟨rfl, hRn, hOn⟩
                        have hEn' : Eff base rb ub _ wn := hOn.eff (base := base) (ub := ub)
                        have hUn := hU8.row hOn _ hRn
                        have hCn := CodesAt.eff hC8 hU8 hEn'
                        have hEn := hE8.trans hEn'
                        have hownn := own_only hown8 hOn hU8
                        have hbn : baseL ≤ wn.heap.size := by rw [hOn.size]; exact hb8
                        have hxn : (numT s 2 zst).1 < 4 := numT_lt s 2 zst
                        obtain ⟨m9, hm9⟩ : ∃ m, m = M.length - 1 := ⟨_, rfl⟩
                        have hcl9 : wn.cell? ⟨g9, m9, none⟩ = some (.int .i64 ((M.getD (M.length - 1) 0 : Nat) : Int)) := own_last hownn hm9 hl0
                        have hmi : ((M.length : Int) - 1) = (m9 : Int) := by omega
                        have hmlt : m9 < M.length := by omega
                        have hne0 : ((M.length : Int) == 0) = false := by rw [beq_eq_false_iff_ne]; omega
                        clear hRn hOn hEn' hown8 hU8 hE8 hC8 hb8 hm9 hcel9 hsh
                        generalize M.getD (M.length - 1) 0 = lv at *
                        have hlv : lv ≤ 15 := hlv0
                        generalize numT s 2 zst = X at *
                        obtain ⟨xv, xst⟩ := X
                        simp only at hxn hUn
                        obtain ⟨kk, hkk⟩ : ∃ kk, kk = 3 + xv := ⟨_, rfl⟩
                        have hkki : (3 + (xv : Int)) = (kk : Int) := by omega
                        have hkk1 : 1 ≤ kk := by omega
                        have hkk2 : kk ≤ 138 := by omega
                        have HK : Hid (lensF s N cs (N + 1) [] st6 = lensF s N cs f (M ++ List.replicate kk lv) xst) := (by rw [hkk]; exact HK0.out : _ = _)
                        clear hkk HK0
                        go_wp2_with fail
                        go_loopw [11, 15] (fun v i wr => ∃ k j : Nat, k + j = kk ∧ i = .int .i64 k ∧ wr.ownsRow baseL 3 1 v (M.length + k) (nums (M ++ List.replicate k lv)) ∧ UIs wr base rb ub s win most ⟨xst, out⟩ ∧ Eff base rb ub w wr ∧ CodesAt wr vc cs ∧ baseL ≤ wr.heap.size) (fun _ i _ => kk - (intOf i).toNat)
                        case atStart => exact ⟨0, kk, by omega, rfl, by simpa using hownn, hUn, hEn, hCn, hbn⟩
                        case round =>
                          obtain ⟨k9, j9, hkj9, rfl, hown9, hU9, hE9, hC9, hb9⟩ := hrel
                          by_cases hk9 : k9 < kk
                          · go_wp2_with (first
                              | (at_builtin; refine append_int rfl _ _ rfl baseL _ (M.length + k9) (nums (M ++ List.replicate k9 lv)) _ hown9 rfl rfl (by omega) hb9 ?_; intro v' w9 hown9' hg9)
                              | go_in)
                            have hsm := same_grown hown9 hg9
                            go_roundw
                            case rel => exact ⟨k9 + 1, j9 - 1, by omega, by go_num, (by rw [rep_snoc, ← List.append_assoc, nums_snoc]; exact hown9'), hU9.same hsm, hE9.app hUb hwb hown9 hg9, CodesAt.same hC9 hsm, Nat.le_trans hb9 (size_app hg9)⟩
                            case measure => simp [intOf]; omega
                          · have hk9e : kk = k9 := by omega
                            subst hk9e
                            obtain ⟨ao9, cap9, rfl, _⟩ := own_any_shape hown9
                            have HQ : Hid (∀ x ∈ M ++ List.replicate (kk) lv, x ≤ 15) := fun x hx => by
                              rcases List.mem_append.1 hx with hx | hx
                              · exact hM15 x hx
                              · rw [List.eq_of_mem_replicate hx]; exact hlv
                            clear hkj9
                            go_wp2
                            go_roundw
                            case rel => exact ⟨f, M ++ List.replicate (kk) lv, xst, HK.out, .inr (by simp; omega), HQ.out, by simp; omega, by simpa using hown9, hU9, hE9, hC9, hb9⟩
                            case measure =>
                              rw [measL_go hUm.1 rfl]
                              cases hbad : (xst).bad with
                              | true => rw [measL_bad hU9.1 hbad]; omega
                              | false => rw [measL_go hU9.1 hbad]; omega
                  · have hyb16 : ((y : Int) == 16) = false := by rw [beq_eq_false_iff_ne]; omega
                    by_cases hy17 : y = 17
                    · as_aux_lemma =>
                        subst hy17
                        have HK0 : Hid (lensF s N cs (N + 1) [] st6 = lensF s N cs f (M ++ List.replicate (3 + (numT s 3 zst).1) 0) (numT s 3 zst).2) := HG.out 0 (3 + (numT s 3 zst).1) (numT s 3 zst).2 (rfl)
                        clear HG HR
                        go_wp2_with fail
                        refine (number_any rb s zst 3 _ rfl _ hU8.1 hs (by omega)).mono ?_
                        rintro e wn ⟨rfl, hRn, hOn⟩
                        have hEn' : Eff base rb ub _ wn := hOn.eff (base := base) (ub := ub)
                        have hUn := hU8.row hOn _ hRn
                        have hCn := CodesAt.eff hC8 hU8 hEn'
                        have hEn := hE8.trans hEn'
                        have hownn := own_only hown8 hOn hU8
                        have hbn : baseL ≤ wn.heap.size := by rw [hOn.size]; exact hb8
                        have hxn : (numT s 3 zst).1 < 8 := numT_lt s 3 zst
                        clear hRn hOn hEn' hown8 hU8 hE8 hC8 hb8
                        generalize numT s 3 zst = X at *
                        obtain ⟨xv, xst⟩ := X
                        simp only at hxn hUn
                        obtain ⟨kk, hkk⟩ : ∃ kk, kk = 3 + xv := ⟨_, rfl⟩
                        have hkki : (3 + (xv : Int)) = (kk : Int) := by omega
                        have hkk1 : 1 ≤ kk := by omega
                        have hkk2 : kk ≤ 138 := by omega
                        have HK : Hid (lensF s N cs (N + 1) [] st6 = lensF s N cs f (M ++ List.replicate kk 0) xst) := (by rw [hkk]; exact HK0.out : _ = _)
                        clear hkk HK0
                        go_wp2_with fail
                        go_loopw [11, 15] (fun v i wr => ∃ k j : Nat, k + j = kk ∧ i = .int .i64 k ∧ wr.ownsRow baseL 3 1 v (M.length + k) (nums (M ++ List.replicate k 0)) ∧ UIs wr base rb ub s win most ⟨xst, out⟩ ∧ Eff base rb ub w wr ∧ CodesAt wr vc cs ∧ baseL ≤ wr.heap.size) (fun _ i _ => kk - (intOf i).toNat)
                        case atStart => exact ⟨0, kk, by omega, rfl, by simpa using hownn, hUn, hEn, hCn, hbn⟩
                        case round =>
                          obtain ⟨k9, j9, hkj9, rfl, hown9, hU9, hE9, hC9, hb9⟩ := hrel
                          by_cases hk9 : k9 < kk
                          · go_wp2_with (first
                              | (at_builtin; refine append_int rfl _ _ rfl baseL _ (M.length + k9) (nums (M ++ List.replicate k9 0)) _ hown9 rfl rfl (by omega) hb9 ?_; intro v' w9 hown9' hg9)
                              | go_in)
                            have hsm := same_grown hown9 hg9
                            go_roundw
                            case rel => exact ⟨k9 + 1, j9 - 1, by omega, by go_num, (by rw [rep_snoc, ← List.append_assoc, nums_snoc]; exact hown9'), hU9.same hsm, hE9.app hUb hwb hown9 hg9, CodesAt.same hC9 hsm, Nat.le_trans hb9 (size_app hg9)⟩
                            case measure => simp [intOf]; omega
                          · have hk9e : kk = k9 := by omega
                            subst hk9e
                            obtain ⟨ao9, cap9, rfl, _⟩ := own_any_shape hown9
                            have HQ : Hid (∀ x ∈ M ++ List.replicate (kk) 0, x ≤ 15) := fun x hx => by
                              rcases List.mem_append.1 hx with hx | hx
                              · exact hM15 x hx
                              · rw [List.eq_of_mem_replicate hx]; exact by omega
                            clear hkj9
                            go_wp2
                            go_roundw
                            case rel => exact ⟨f, M ++ List.replicate (kk) 0, xst, HK.out, .inr (by simp; omega), HQ.out, by simp; omega, by simpa using hown9, hU9, hE9, hC9, hb9⟩
                            case measure =>
                              rw [measL_go hUm.1 rfl]
                              cases hbad : (xst).bad with
                              | true => rw [measL_bad hU9.1 hbad]; omega
                              | false => rw [measL_go hU9.1 hbad]; omega
                    · have hyb17 : ((y : Int) == 17) = false := by rw [beq_eq_false_iff_ne]; omega
                      by_cases hy18 : y = 18
                      · as_aux_lemma =>
                          subst hy18
                          have HK0 : Hid (lensF s N cs (N + 1) [] st6 = lensF s N cs f (M ++ List.replicate (11 + (numT s 7 zst).1) 0) (numT s 7 zst).2) := HG.out 0 (11 + (numT s 7 zst).1) (numT s 7 zst).2 (rfl)
                          clear HG HR
                          go_wp2_with fail
                          refine (number_any rb s zst 7 _ rfl _ hU8.1 hs (by omega)).mono ?_
                          rintro e wn ⟨rfl, hRn, hOn⟩
                          have hEn' : Eff base rb ub _ wn := hOn.eff (base := base) (ub := ub)
                          have hUn := hU8.row hOn _ hRn
                          have hCn := CodesAt.eff hC8 hU8 hEn'
                          have hEn := hE8.trans hEn'
                          have hownn := own_only hown8 hOn hU8
                          have hbn : baseL ≤ wn.heap.size := by rw [hOn.size]; exact hb8
                          have hxn : (numT s 7 zst).1 < 128 := numT_lt s 7 zst
                          clear hRn hOn hEn' hown8 hU8 hE8 hC8 hb8
                          generalize numT s 7 zst = X at *
                          obtain ⟨xv, xst⟩ := X
                          simp only at hxn hUn
                          obtain ⟨kk, hkk⟩ : ∃ kk, kk = 11 + xv := ⟨_, rfl⟩
                          have hkki : (11 + (xv : Int)) = (kk : Int) := by omega
                          have hkk1 : 1 ≤ kk := by omega
                          have hkk2 : kk ≤ 138 := by omega
                          have HK : Hid (lensF s N cs (N + 1) [] st6 = lensF s N cs f (M ++ List.replicate kk 0) xst) := (by rw [hkk]; exact HK0.out : _ = _)
                          clear hkk HK0
                          go_wp2_with fail
                          go_loopw [11, 15] (fun v i wr => ∃ k j : Nat, k + j = kk ∧ i = .int .i64 k ∧ wr.ownsRow baseL 3 1 v (M.length + k) (nums (M ++ List.replicate k 0)) ∧ UIs wr base rb ub s win most ⟨xst, out⟩ ∧ Eff base rb ub w wr ∧ CodesAt wr vc cs ∧ baseL ≤ wr.heap.size) (fun _ i _ => kk - (intOf i).toNat)
                          case atStart => exact ⟨0, kk, by omega, rfl, by simpa using hownn, hUn, hEn, hCn, hbn⟩
                          case round =>
                            obtain ⟨k9, j9, hkj9, rfl, hown9, hU9, hE9, hC9, hb9⟩ := hrel
                            by_cases hk9 : k9 < kk
                            · go_wp2_with (first
                                | (at_builtin; refine append_int rfl _ _ rfl baseL _ (M.length + k9) (nums (M ++ List.replicate k9 0)) _ hown9 rfl rfl (by omega) hb9 ?_; intro v' w9 hown9' hg9)
                                | go_in)
                              have hsm := same_grown hown9 hg9
                              go_roundw
                              case rel => exact ⟨k9 + 1, j9 - 1, by omega, by go_num, (by rw [rep_snoc, ← List.append_assoc, nums_snoc]; exact hown9'), hU9.same hsm, hE9.app hUb hwb hown9 hg9, CodesAt.same hC9 hsm, Nat.le_trans hb9 (size_app hg9)⟩
                              case measure => simp [intOf]; omega
                            · have hk9e : kk = k9 := by omega
                              subst hk9e
                              obtain ⟨ao9, cap9, rfl, _⟩ := own_any_shape hown9
                              have HQ : Hid (∀ x ∈ M ++ List.replicate (kk) 0, x ≤ 15) := fun x hx => by
                                rcases List.mem_append.1 hx with hx | hx
                                · exact hM15 x hx
                                · rw [List.eq_of_mem_replicate hx]; exact by omega
                              clear hkj9
                              go_wp2
                              go_roundw
                              case rel => exact ⟨f, M ++ List.replicate (kk) 0, xst, HK.out, .inr (by simp; omega), HQ.out, by simp; omega, by simpa using hown9, hU9, hE9, hC9, hb9⟩
                              case measure =>
                                rw [measL_go hUm.1 rfl]
                                cases hbad : (xst).bad with
                                | true => rw [measL_bad hU9.1 hbad]; omega
                                | false => rw [measL_go hU9.1 hbad]; omega
                      · as_aux_lemma =>
                          have hyb18 : ((y : Int) == 18) = false := by rw [beq_eq_false_iff_ne]; omega
                          have HK : Hid (lensF s N cs (N + 1) [] st6 = lensF s N cs f (M ++ List.replicate 1 y) zst) := HG.out y 1 zst (by unfold lenStep; rw [if_neg hy16, if_neg hy17, if_neg hy18])
                          clear HG HR
                          go_wp2_with fail
                          go_loopw [11, 15] (fun v i wr => ∃ k j : Nat, k + j = 1 ∧ i = .int .i64 k ∧ wr.ownsRow baseL 3 1 v (M.length + k) (nums (M ++ List.replicate k y)) ∧ UIs wr base rb ub s win most ⟨zst, out⟩ ∧ Eff base rb ub w wr ∧ CodesAt wr vc cs ∧ baseL ≤ wr.heap.size) (fun _ i _ => 1 - (intOf i).toNat)
                          case atStart => exact ⟨0, 1, by omega, rfl, by simpa using hown8, hU8, hE8, hC8, hb8⟩
                          case round =>
                            obtain ⟨k9, j9, hkj9, rfl, hown9, hU9, hE9, hC9, hb9⟩ := hrel
                            by_cases hk9 : k9 < 1
                            · go_wp2_with (first
                                | (at_builtin; refine append_int rfl _ _ rfl baseL _ (M.length + k9) (nums (M ++ List.replicate k9 y)) _ hown9 rfl rfl (by omega) hb9 ?_; intro v' w9 hown9' hg9)
                                | go_in)
                              have hsm := same_grown hown9 hg9
                              go_roundw
                              case rel => exact ⟨k9 + 1, j9 - 1, by omega, by go_num, (by rw [rep_snoc, ← List.append_assoc, nums_snoc]; exact hown9'), hU9.same hsm, hE9.app hUb hwb hown9 hg9, CodesAt.same hC9 hsm, Nat.le_trans hb9 (size_app hg9)⟩
                              case measure => simp [intOf]; omega
                            · have hk9e : 1 = k9 := by omega
                              subst hk9e
                              obtain ⟨ao9, cap9, rfl, _⟩ := own_any_shape hown9
                              have HQ : Hid (∀ x ∈ M ++ List.replicate (1) y, x ≤ 15) := fun x hx => by
                                rcases List.mem_append.1 hx with hx | hx
                                · exact hM15 x hx
                                · rw [List.eq_of_mem_replicate hx]; exact by omega
                              clear hkj9
                              go_wp2
                              go_roundw
                              case rel => exact ⟨f, M ++ List.replicate (1) y, zst, HK.out, .inr (by simp; omega), HQ.out, by simp; omega, by simpa using hown9, hU9, hE9, hC9, hb9⟩
                              case measure =>
                                rw [measL_go hUm.1 rfl]
                                cases hbad : (zst).bad with
                                | true => rw [measL_bad hU9.1 hbad]; omega
                                | false => rw [measL_go hU9.1 hbad]; omega
                · have HL : Hid (lensF s N cs (N + 1) [] st6 = (M, ⟨tp, true⟩)) := hF.trans (lensF_bad s N cs f M _ rfl)
                  have HT4 : Hid (T = ⟨⟨tp, true⟩, out⟩) := (by rw [HT3.out, HL.out]; exact finT_bad s win most _ _ out M ⟨tp, true⟩ (Or.inl rfl) : _ = _)
                  have hMi : (M.length : Int) < (N : Int) := by omega
                  have hfm := hUm.1.free 2
                  clear hF hfu HL HT3
                  go_wp2
                  refine bodyPost_ret (results_none rfl _ _ _) rfl ?_
                  exact ⟨rfl, by rw [← HTT.out, HT4.out]; exact hUm.row ((Only.refl rb wr).setCell 2 _) _ (hUm.1.set2 true), hEm.set rb 2 (.inl rfl) _⟩
              · have HL : Hid (lensF s N cs (N + 1) [] st6 = (M, ⟨tp, tb⟩)) := hF.trans (lensF_full s N cs f M _ hMN)
                have hMi : ¬ (M.length : Int) < (N : Int) := by omega
                have hfm := hUm.1.free 2
                clear hF hfu
                cases tb
                · by_cases hMe : M.length = N
                  · have hl0 : 0 < M.length := by omega
                    obtain ⟨g9, rfl, hcap9, _⟩ := hsh hl0
                    obtain ⟨a, ha⟩ : ∃ a, a = a0 + 257 := ⟨_, rfl⟩
                    have hai : ((a0 : Int) + 257) = (a : Int) := by omega
                    have haN : a < N := by have := HN.out; omega
                    have HA : Hid _ := ha
                    have hIa := ints_take hown a (by omega)
                    have hIb := ints_drop hown a (by omega)
                    have hea := getD_le _ 15 (fun x hx => hM15 x (List.mem_of_mem_take hx) : ∀ x ∈ M.take a, x ≤ 15)
                    have heb := getD_le _ 15 (fun x hx => hM15 x (List.mem_of_mem_drop hx) : ∀ x ∈ M.drop a, x ≤ 15)
                    have hla : (M.take a).length ≤ 400 := by rw [List.length_take]; omega
                    have hlb : (M.drop a).length ≤ 400 := by rw [List.length_drop]; omega
                    have hneq : ((M.length : Int) != (N : Int)) = false := by rw [bne_eq_false_iff_eq]; omega
                    have HME : Hid _ := hMe
                    clear hMe ha hsh
                    go_wp2_with fail
                    refine (codes_any (M.take a) _ _ hIa hla hea).mono ?_
                    rintro e wA ⟨va, rfl, hCA, hBA⟩
                    have hUA := hUm.below hBA
                    have hEA := hEm.trans (eff_of_below (rb := rb) (ub := ub) hUm.2.2.2.2.1 hBA)
                    have hIaA := IntsAt.below hIa hBA
                    have hIbA := IntsAt.below hIb hBA
                    have hownA := own_over hown (fun k cur e => hBA.block k (lt_of_blk e))
                    clear hIa hIb hown hUm hEm hBA hCA hcm hfm
                    go_wp2_with fail
                    refine (codes_any (M.drop a) _ _ hIbA hlb heb).mono ?_
                    rintro e wB ⟨vb, rfl, hCB, hBB⟩
                    have hUB := hUA.below hBB
                    have hEB := hEA.trans (eff_of_below (rb := rb) (ub := ub) hUA.2.2.2.2.1 hBB)
                    have hIaB := IntsAt.below hIaA hBB
                    have hIbB := IntsAt.below hIbA hBB
                    have hownB := own_over hownA (fun k cur e => hBB.block k (lt_of_blk e))
                    have h256 := own_cell hownB 256 (by have := HA.out; omega)
                    have hxb0 := codesT_much (M.take a) hla
                    have hyb0 := codesT_much (M.drop a) hlb
                    have HW : Hid (wrongT a M = (M.getD 256 0 == 0 || ((codesT (M.take a)).much != 32768 && !(((codesT (M.take a)).much == 16384 && M.getD 256 0 == 1) && singleT (M.take a))) || ((codesT (M.drop a)).much != 32768 && !((codesT (M.drop a)).much == 0 || ((codesT (M.drop a)).much == 16384 && singleT (M.drop a)))))) := (rfl : _ = _)
                    have HG1 : Hid (wrongT a M = true → T = ⟨⟨tp, true⟩, out⟩) := fun h => by
                      rw [HT3.out, HL.out]; exact finT_wrong s win most _ _ out M ⟨tp, false⟩ rfl (by rw [HME.out, HN.out]) (by rw [← HA.out]; exact h)
                    have HG2 : Hid (wrongT a M = false → T = symsF s win most (codesT (M.take a)).cs (codesT (M.drop a)).cs (8 * s.size + 1) ⟨⟨tp, false⟩, out⟩) := fun h => by
                      rw [HT3.out, HL.out]
                      have h2 := finT_go s win most (a0 + 257) (b0 + 1) out M ⟨tp, false⟩ rfl (by rw [HME.out, HN.out]) (by rw [← HA.out]; exact h)
                      rw [← HA.out] at h2
                      rw [← HA.out]
                      exact h2
                    obtain ⟨wg, hwg⟩ : ∃ b, b = wrongT a M := ⟨_, rfl⟩
                    rw [← hwg] at HW HG1 HG2
                    clear hwg HT3 HL hownA hIaA hIbA hUA hEA hCB hBB hownB
                    generalize (codesT (M.take a)).much = x at *
                    generalize (codesT (M.drop a)).much = y at *
                    generalize M.getD 256 0 = v6 at *
                    obtain ⟨sx, hsx⟩ : ∃ b, b = singleT (M.take a) := ⟨_, rfl⟩
                    obtain ⟨sy, hsy2⟩ : ∃ b, b = singleT (M.drop a) := ⟨_, rfl⟩
                    rw [← hsx, ← hsy2] at HW
                    have HSX : Hid _ := hsx
                    have HSY : Hid _ := hsy2
                    clear hsx hsy2
                    obtain ⟨lo, hlo⟩ : ∃ b : Bool, b = (x == 16384 && v6 == 1) := ⟨_, rfl⟩
                    obtain ⟨no, hno⟩ : ∃ b : Bool, b = (y == 0 || (y == 16384 && sy)) := ⟨_, rfl⟩
                    rw [← hlo, ← hno] at HW
                    have HLO : Hid _ := hlo
                    have HNO : Hid _ := hno
                    clear hlo hno
                    have hcB := hUB.1.c2
                    have hfB := hUB.1.free 2
                    go_upto_region 40 with fail
                    go_cut [20] (fun v wx => v = .bool lo ∧ wx = wB)
                    case first =>
                      as_aux_lemma =>
                        by_cases hx : x = 16384
                        · have hxb : ((x : Int) == 16384) = true := by rw [beq_iff_eq]; omega
                          by_cases hv : v6 = 1
                          · have hvb : ((v6 : Int) == 1) = true := by rw [beq_iff_eq]; omega
                            have HI : Hid (lo = true) := (by rw [HLO.out, hx, hv]; rfl : _ = _)
                            clear hx hv
                            go_wp2
                            go_meet
                            case rel => exact ⟨by rw [HI.out], rfl⟩
                          · have hvb : ((v6 : Int) == 1) = false := by rw [beq_eq_false_iff_ne]; omega
                            have HI : Hid (lo = false) := (by rw [HLO.out, beq_eq_false_iff_ne.2 hv, Bool.and_false] : _ = _)
                            clear hx hv
                            go_wp2
                            go_meet
                            case rel => exact ⟨by rw [HI.out], rfl⟩
                        · have hxb : ((x : Int) == 16384) = false := by rw [beq_eq_false_iff_ne]; omega
                          have HI : Hid (lo = false) := (by rw [HLO.out, beq_eq_false_iff_ne.2 hx, Bool.false_and] : _ = _)
                          clear hx
                          go_wp2
                          go_meet
                          case rel => exact ⟨by rw [HI.out], rfl⟩
                    case rest =>
                      obtain ⟨rfl, hwB⟩ := hcut
                      have hwB := hwB.symm
                      subst hwB
                      go_upto_region 41 with fail
                      go_cut [21] (fun v wx => v = .bool no ∧ wx = wB)
                      case first =>
                        as_aux_lemma =>
                          by_cases hy0 : y = 0
                          · have hyb : ((y : Int) == 0) = true := by rw [beq_iff_eq]; omega
                            have HI : Hid (no = true) := (by rw [HNO.out, hy0]; rfl : _ = _)
                            clear hy0
                            go_wp2
                            go_meet
                            case rel => exact ⟨by rw [HI.out], rfl⟩
                          · have hyb : ((y : Int) == 0) = false := by rw [beq_eq_false_iff_ne]; omega
                            by_cases hy1 : y = 16384
                            · have hyc : ((y : Int) == 16384) = true := by rw [beq_iff_eq]; omega
                              have HI : Hid (no = sy) := (by rw [HNO.out, hy1]; simp : _ = _)
                              clear hy0 hy1
                              go_wp2_with (go_at_call 120; refine (single_any (M.drop a) _ _ hIbB hlb).mono ?_; rw [← HSY.out]; rintro e wz ⟨rfl, rfl⟩)
                              go_meet
                              case rel => exact ⟨by rw [HI.out], rfl⟩
                            · have hyc : ((y : Int) == 16384) = false := by rw [beq_eq_false_iff_ne]; omega
                              have HI : Hid (no = false) := (by rw [HNO.out, beq_eq_false_iff_ne.2 hy0, beq_eq_false_iff_ne.2 hy1]; rfl : _ = _)
                              clear hy0 hy1
                              go_wp2
                              go_meet
                              case rel => exact ⟨by rw [HI.out], rfl⟩
                      case rest =>
                        obtain ⟨rfl, hwB⟩ := hcut
                        have hwB := hwB.symm
                        subst hwB
                        go_upto_region 42 with fail
                        go_cut [197] (fun v wx => v = .bool wg ∧ wx = wB)
                        case first =>
                          as_aux_lemma =>
                            have hw1 : Hid (v6 = 0 → wg = true) := fun h => by rw [HW.out, h]; rfl
                            have hw2 : Hid (v6 ≠ 0 → (x = 32768 ∨ (lo = true ∧ sx = true)) → wg = (y != 32768 && !no)) := fun h h2 => by
                              rw [HW.out, beq_eq_false_iff_ne.2 h]
                              rcases h2 with h2 | ⟨h2, h3⟩
                              · rw [h2]; rfl
                              · rw [h2, h3]; simp
                            have hw3 : Hid (v6 ≠ 0 → x ≠ 32768 → (lo = false ∨ sx = false) → wg = true) := fun h h2 h3 => by
                              rw [HW.out, beq_eq_false_iff_ne.2 h, bne_iff_ne.2 h2]
                              rcases h3 with h3 | h3 <;> rw [h3] <;> simp
                            have hw4 : Hid (y = 32768 → (y != 32768 && !no) = false) := fun h => by rw [h]; rfl
                            have hw5 : Hid (y ≠ 32768 → (y != 32768 && !no) = !no) := fun h => by rw [bne_iff_ne.2 h]; rfl
                            clear HW HLO HNO HG1 HG2
                            by_cases hv : v6 = 0
                            · have hvb : ((v6 : Int) == 0) = true := by rw [beq_iff_eq]; omega
                              have HI : Hid _ := hw1.out hv
                              clear hv hw1 hw2 hw3 hw4 hw5
                              go_wp2
                              go_meet
                              case rel => exact ⟨by rw [HI.out], rfl⟩
                            · have hvb : ((v6 : Int) == 0) = false := by rw [beq_eq_false_iff_ne]; omega
                              by_cases hx : x = 32768
                              · have hxb : ((x : Int) != 32768) = false := by rw [bne_eq_false_iff_eq]; omega
                                have HI : Hid _ := hw2.out hv (Or.inl hx)
                                by_cases hy : y = 32768
                                · have hyb : ((y : Int) != 32768) = false := by rw [bne_eq_false_iff_eq]; omega
                                  have HJ : Hid (wg = false) := HI.out.trans (hw4.out hy)
                                  clear hv hx hy hw1 hw2 hw3 hw4 hw5 HI
                                  go_wp2
                                  go_meet
                                  case rel => exact ⟨by rw [HJ.out], rfl⟩
                                · have hyb : ((y : Int) != 32768) = true := by rw [bne_iff_ne]; omega
                                  have HJ : Hid (wg = !no) := HI.out.trans (hw5.out hy)
                                  clear hv hx hy hw1 hw2 hw3 hw4 hw5 HI
                                  go_wp2
                                  go_meet
                                  case rel => exact ⟨by rw [HJ.out], rfl⟩
                              · have hxb : ((x : Int) != 32768) = true := by rw [bne_iff_ne]; omega
                                cases lo
                                · have HJ : Hid (wg = true) := hw3.out hv hx (Or.inl rfl)
                                  clear hv hx hw1 hw2 hw3 hw4 hw5
                                  go_wp2
                                  go_meet
                                  case rel => exact ⟨by rw [HJ.out], rfl⟩
                                · cases sx
                                  · have HJ : Hid (wg = true) := hw3.out hv hx (Or.inr rfl)
                                    clear hv hx hw1 hw2 hw3 hw4 hw5
                                    go_wp2_with (go_at_call 120; refine (single_any (M.take a) _ _ hIaB hla).mono ?_; rw [← HSX.out]; rintro e wz ⟨rfl, rfl⟩)
                                    go_meet
                                    case rel => exact ⟨by rw [HJ.out], rfl⟩
                                  · have HI : Hid _ := hw2.out hv (Or.inr ⟨rfl, rfl⟩)
                                    by_cases hy : y = 32768
                                    · have hyb : ((y : Int) != 32768) = false := by rw [bne_eq_false_iff_eq]; omega
                                      have HJ : Hid (wg = false) := HI.out.trans (hw4.out hy)
                                      clear hv hx hy hw1 hw2 hw3 hw4 hw5 HI
                                      go_wp2_with (go_at_call 120; refine (single_any (M.take a) _ _ hIaB hla).mono ?_; rw [← HSX.out]; rintro e wz ⟨rfl, rfl⟩)
                                      go_meet
                                      case rel => exact ⟨by rw [HJ.out], rfl⟩
                                    · have hyb : ((y : Int) != 32768) = true := by rw [bne_iff_ne]; omega
                                      have HJ : Hid (wg = !no) := HI.out.trans (hw5.out hy)
                                      clear hv hx hy hw1 hw2 hw3 hw4 hw5 HI
                                      go_wp2_with (go_at_call 120; refine (single_any (M.take a) _ _ hIaB hla).mono ?_; rw [← HSX.out]; rintro e wz ⟨rfl, rfl⟩)
                                      go_meet
                                      case rel => exact ⟨by rw [HJ.out], rfl⟩
                        case rest =>
                          obtain ⟨rfl, hwB⟩ := hcut
                          have hwB := hwB.symm
                          subst hwB
                          cases wg
                          · have HZ : Hid _ := HG2.out rfl
                            clear HG1 HG2 HW HLO HNO
                            go_wp2_with fail
                            go_region_with (go_at_call 81; refine (symbols_any base rb ub s win most ⟨⟨tp, false⟩, out⟩ (M.take a) (M.drop a) _ _ _ (by exact hUB) hs hm hwin (by exact hIaB) (by exact hIbB) hla hlb hea heb).mono ?_; rintro e wz ⟨rfl, hUz, hEz⟩)
                            all_goals
                              have hEz' : Eff base rb ub wB wz := ⟨hEz.os, hEz.tape, hEz.output, hEz.size, hEz.low, hEz.other⟩
                              go_wp2
                              go_end0
                              exact ⟨rfl, by rw [← HTT.out, HZ.out]; exact hUz, hEB.trans hEz'⟩
                          · have HZ : Hid _ := HG1.out rfl
                            clear HG1 HG2 HW HLO HNO
                            go_wp2
                            refine bodyPost_ret (results_none rfl _ _ _) rfl ?_
                            exact ⟨rfl, by rw [← HTT.out, HZ.out]; exact hUB.row ((Only.refl rb wB).setCell 2 _) _ (hUB.1.set2 true), hEB.set rb 2 (.inl rfl) _⟩
                  · have HT4 : Hid (T = ⟨⟨tp, true⟩, out⟩) := (by rw [HT3.out, HL.out]; exact finT_bad s win most _ _ out M ⟨tp, false⟩ (Or.inr (by rw [← HN.out]; exact hMe)) : _ = _)
                    have hne : ((M.length : Int) != (N : Int)) = true := by rw [bne_iff_ne]; omega
                    clear HL HT3 hMe
                    go_wp2
                    refine bodyPost_ret (results_none rfl _ _ _) rfl ?_
                    exact ⟨rfl, by rw [← HTT.out, HT4.out]; exact hUm.row ((Only.refl rb wr).setCell 2 _) _ (hUm.1.set2 true), hEm.set rb 2 (.inl rfl) _⟩
                · have HT4 : Hid (T = ⟨⟨tp, true⟩, out⟩) := (by rw [HT3.out, HL.out]; exact finT_bad s win most _ _ out M ⟨tp, true⟩ (Or.inl rfl) : _ = _)
                  clear HL HT3
                  go_wp2
                  refine bodyPost_ret (results_none rfl _ _ _) rfl ?_
                  exact ⟨rfl, by rw [← HTT.out, HT4.out]; exact hUm.row ((Only.refl rb wr).setCell 2 _) _ (hUm.1.set2 true), hEm.set rb 2 (.inl rfl) _⟩
        | succ j =>
          as_aux_lemma =>
            have hkn : k < n0 + 4 := by omega
            have hk18 : k < order.length := by show k < 19; omega
            have HS : Hid (smallL s (n0 + 4) 0 z19 st4 = smallL s j (k + 1) (L.set (order.getD k 0) (numT s 3 t).1) (numT s 3 t).2 ∧ k + 1 + j = n0 + 4) := (⟨hS, by omega⟩ : _ ∧ _)
            have hoc := hRk.cell k hk18
            have hol := order_lt k
            have hsc := hLk.cell (order.getD k 0) (by omega)
            have hsf := hLk.free (order.getD k 0)
            have hgr := hUk.ne hRk (by decide) (by decide)
            have hgl := hUk.ne hLk (by decide) (by decide)
            clear hS hkj
            generalize hord : order.getD k 0 = o at *
            clear hord
            go_wp2_with fail
            go_region_with (go_at_call 79; refine (number_any rb s t 3 _ rfl _ (by exact hUk.1) hs (by omega)).mono ?_; rintro e wz ⟨rfl, hRz, hOz⟩; have kz1 := (World.cell?_of_block (a := ⟨gO, k, none⟩) (hOz.block gO hgr.1)).trans hoc; have kz2 := (World.cell?_of_block (a := ⟨gO + 1, o, none⟩) (hOz.block (gO + 1) hgl.1)).trans hsc; have kz3 := (World.frozen?_of_block (a := ⟨gO + 1, o, none⟩) (hOz.block (gO + 1) hgl.1)).trans hsf)
            all_goals
              have hOz' : Only rb wr wz := ⟨hOz.os, hOz.tape, hOz.output, hOz.size, hOz.block⟩
              have hLz := hLk.over (hOz'.block _ hgl.1)
              have hUz := (hUk.row hOz' _ hRz).same (same_set hLz o (.int .i64 (((numT s 3 t).1 : Nat) : Int)))
              have hEz := (hEk.trans (hOz'.eff (base := base) (ub := ub))).setNew hUb (show w.heap.size ≤ gO + 1 by omega) o (.int .i64 (((numT s 3 t).1 : Nat) : Int))
              have hRz2 := (hRk.over (hOz'.block _ hgr.1)).over (Below.heap_setCell wz ⟨gO + 1, o, none⟩ (.int .i64 (((numT s 3 t).1 : Nat) : Int)) gO (by show gO ≠ gO + 1; omega))
              have hLz2 := hLz.set o (numT s 3 t).1 (.int .i64 (((numT s 3 t).1 : Nat) : Int)) rfl
              clear kz1 kz2 kz3 hRz hOz hLz
              go_wp2
              go_roundw
              case rel => exact ⟨k + 1, j, _, _, HS.out.2, HS.out.1, by simpa using hL19, by go_num, hUz, hEz, hRz2, hLz2⟩
              case measure => simp [intOf]; omega
end Go.Proofs.YtephkcdbnogdhaaGreatDoor.RfW
