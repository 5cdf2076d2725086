/- The walk of the document's Inflate. -/
import Derived.Test.YtjfifmadldcjjaaGreatDoorRefBlocks
import Derived.Laws.BytesArg
namespace Go.Proofs.YtjfifmadldcjjaaGreatDoor.RfW
open Go.RowKit Rf
theorem ret_three {a : ByteArray} {b b' c : Int} (h : b = b') : Ending.returned (.tuple #[.string a, .int .i64 b, .int .i64 c]) = .returned (.tuple #[.string a, .int .i64 b', .int .i64 c]) := by rw [h]
set_option maxRecDepth 10000 in
set_option maxHeartbeats 2000000 in
theorem inflate_limit (s : ByteArray) (win most : Int) (w : World) (h : win < 1 ∨ 32768 < win ∨ most < 0 ∨ 16777216 < most) :
    Calls Tryz.prog 6 #[.string s, .int .i64 win, .int .i64 most] w fun e w' => e = .returned (.tuple #[.string ⟨#[]⟩, .int .i64 0, .int .i64 1]) ∧ w' = w := by
  by_cases h1 : win < 1
  · go_enter Tryz.func6, Tryz.ntmps6
    go_wp2
    go_ret3
    exact ⟨rfl, rfl⟩
  · by_cases h2 : 32768 < win
    · go_enter Tryz.func6, Tryz.ntmps6
      go_wp2
      go_ret3
      exact ⟨rfl, rfl⟩
    · by_cases h3 : most < 0
      · go_enter Tryz.func6, Tryz.ntmps6
        go_wp2
        go_ret3
        exact ⟨rfl, rfl⟩
      · have h4 : 16777216 < most := by omega
        go_enter Tryz.func6, Tryz.ntmps6
        go_wp2
        go_ret3
        exact ⟨rfl, rfl⟩
theorem below_drewN' {B : Nat} {w w' : World} (h : Below B w w') {n : Nat} : Below B w (w'.drewN n) := ⟨h.os, h.tape, h.output, h.size, h.block⟩
theorem conv_zero (ad : Addr) (cap : Nat) (w : World) : (convert 30 9 (.slice (some ad) 0 cap)).run Tryz.prog w = .ok (.string ⟨#[]⟩) w := by
  rw [run_convert_bytes_string w 30 9 5 _ 0 cap Tryz.underlying30 Tryz.underlying5 Tryz.underlying9]
  have hl : (loadCells ad 0).run Tryz.prog w = .ok (([] : List Int).map (Value.int .u8)).toArray w := run_loadCells_list (P := Tryz.prog) w ad [] (fun j v hj => by simp at hj)
  rw [run_bytesToString w ad 0 cap [] hl]
  rfl
/-- where the blocks end -/
def inflU (s : ByteArray) (win most : Nat) : US := blkF s win most (8 * s.size + 1) ⟨⟨0, false⟩, []⟩
/-- what Inflate hands back of that -/
def inflV (u : US) : Value := if u.st.bad = true then .tuple #[.string ⟨#[]⟩, .int .i64 0, .int .i64 3] else .tuple #[.string ⟨u.out.toArray⟩, .int .i64 (((u.st.pos + 7) / 8 : Nat) : Int), .int .i64 0]
theorem inflV_ok (p : Nat) (out : List UInt8) (n : Int) (h : n = (((p + 7) / 8 : Nat) : Int)) : Ending.returned (.tuple #[.string ⟨out.toArray⟩, .int .i64 n, .int .i64 0]) = .returned (inflV ⟨⟨p, false⟩, out⟩) := by subst h; rfl
set_option maxRecDepth 10000 in
set_option maxHeartbeats 2000000 in
theorem inflate_go (s : ByteArray) (win most : Nat) (w : World) (hs : s.size ≤ 140737488351232) (h1 : 1 ≤ win) (h2 : win ≤ 32768) (h3 : most ≤ 16777216) :
    Calls Tryz.prog 6 #[.string s, .int .i64 (win : Int), .int .i64 (most : Int)] w fun e w' => e = .returned (inflV (inflU s win most)) ∧ Below w.heap.size w w' := by
  have hU0 : UIs ((w.alloc (.cells #[.string s, .int .i64 0, .bool false] 46)).alloc (.cells #[.pointer (some ⟨w.heap.size, 0, none⟩), .slice none 0 0, .int .i64 (win : Int), .int .i64 (most : Int)] 48)) (w.heap.size + 2) w.heap.size (w.heap.size + 1) s win most ⟨⟨0, false⟩, []⟩ := by
    refine ⟨⟨?_, Nat.zero_le _⟩, by omega, by omega, by omega, by simp, Nat.zero_le _, .slice none 0 0, ?_, World.ownsRow_nil _ _ _ _⟩
    · rw [Below.heap_alloc _ _ _ (by simp)]; exact (MapKept.heap_alloc w _).1
    · have h := (MapKept.heap_alloc (w.alloc (.cells #[.string s, .int .i64 0, .bool false] 46)) (.cells #[.pointer (some ⟨w.heap.size, 0, none⟩), .slice none 0 0, .int .i64 (win : Int), .int .i64 (most : Int)] 48)).1
      rw [World.size_alloc] at h
      exact h
  have hB0 : Below w.heap.size w ((w.alloc (.cells #[.string s, .int .i64 0, .bool false] 46)).alloc (.cells #[.pointer (some ⟨w.heap.size, 0, none⟩), .slice none 0 0, .int .i64 (win : Int), .int .i64 (most : Int)] 48)) := ((Below.refl _ _).alloc (Nat.le_refl _) _).alloc (by simp) _
  go_enter Tryz.func6, Tryz.ntmps6
  go_wp2_with fail
  refine (blocks_any (w.heap.size + 2) w.heap.size (w.heap.size + 1) s win most ⟨⟨0, false⟩, []⟩ _ hU0 hs h3 h2).mono ?_
  rintro e w1 ⟨rfl, hU1, hE1⟩
  have hB1 : Below w.heap.size w w1 := hB0.trans ⟨hE1.os, hE1.tape, hE1.output, hE1.size, fun k hk => hE1.low k (by omega) (by omega) (by omega)⟩
  have HI : Hid (inflU s win most = blkF s win most (8 * s.size + 1) ⟨⟨0, false⟩, []⟩) := rfl
  clear hU0 hB0 hE1
  generalize blkF s win most (8 * s.size + 1) ⟨⟨0, false⟩, []⟩ = U at *
  have hu0 := hU1.u0
  have hc2 := hU1.1.c2
  have hc1 := hU1.1.c1
  have hpp : U.st.pos ≤ 8 * s.size := hU1.1.2
  obtain ⟨ao, cap, hu1, hsh⟩ := hU1.u1
  obtain ⟨⟨p, b⟩, out⟩ := U
  cases b
  · have hcv : ∀ nq, (convert 30 9 (.slice ao out.length cap)).run Tryz.prog (w1.drewN nq) = .ok (.string ⟨out.toArray⟩) (w1.drewN nq) := fun nq => by
      by_cases h0 : 0 < out.length
      · obtain ⟨g, rfl, _, hcel⟩ := hsh h0
        have h9 := run_convert_bytes_arg (P := Tryz.prog) (w1.drewN nq) 30 5 Tryz.underlying30 Tryz.underlying5 g 0 out.length cap (out.map fun x => ((x.toNat : Nat) : Int)) (by simp) (fun i hi => by
          rw [Nat.zero_add]
          refine (hcel i hi).trans ?_
          simp [List.getD, List.getElem?_eq_getElem hi]) 9 Tryz.underlying9
        rw [h9]
        have e9 : strOfNums (out.map fun x => ((x.toNat : Nat) : Int)) = ⟨out.toArray⟩ := by unfold strOfNums; simp [List.map_map, Function.comp_def]
        rw [e9]
      · have e0 : out = [] := List.eq_nil_of_length_eq_zero (by omega)
        subst e0
        cases ao with
        | none => exact run_convert_bytes_nil (P := Tryz.prog) (w1.drewN nq) 30 5 Tryz.underlying30 Tryz.underlying5 0 cap 9 Tryz.underlying9
        | some ad => exact conv_zero ad cap (w1.drewN nq)
    have hpi : (p : Int) ≤ 1125899906809856 := by have : p ≤ 8 * s.size := hpp; omega
    go_wp2
    go_quiet (fail)
    go_wp2
    go_ret3
    exact ⟨by rw [HI.out]; exact inflV_ok p out _ (by omega), below_drewN' hB1⟩
  · go_wp2
    go_ret3
    exact ⟨by rw [HI.out]; rfl, hB1⟩
end Go.Proofs.YtjfifmadldcjjaaGreatDoor.RfW
