/- Proved: at every text s that can be read and all numbers window, most, vellumlaw.Inflates returns true and leaves s as it was: deflate.Inflate answers as the document's: the bytes, how many were taken, the error. Its condition: the package-level variables errors.errorType, fault.End, fault.TooLarge and unpack.lengthOrder read as the program's own text lays them (the card ties them to that text; that nothing else writes them is the translator's report). -/
import Derived.Test.YtephkcdbnogdhaaGreatDoorMQ
import Derived.Test.YtephkcdbnogdhaaGreatDoorMV
import Derived.Test.YtephkcdbnogdhaaGreatDoorCards
import Derived.Test.YtephkcdbnogdhaaGreatDoorTie
import Derived.ShutString
import Derived.ChangeOld
import Derived.SizedLaws
import Derived.SevenTiedAt
set_option linter.unusedVariables false
namespace Go.Proofs.YtephkcdbnogdhaaGreatDoor.inflates
open Go.ChangeShapes Go.WideShapes Go.ChangeAt Go.RowKit
open Go.ChangeMaps (open_string shut_string)
set_option linter.unusedVariables false

theorem walk_limit (s : ByteArray) (win most : Int) (w : World) (h : win < 1 ∨ 32768 < win ∨ most < 0 ∨ 16777216 < most) :
    Calls Tryz.prog 3 #[.string s, .int .i64 win, .int .i64 most] w fun e w' => e = .returned (.bool true) ∧ Below w.heap.size w w' := by
  go_enter Tryz.func3, Tryz.ntmps3
  go_wp2_with fail
  refine (Pr.inflate_limit s win most _ h).mono ?_
  rintro e w1 ⟨rfl, rfl⟩
  go_wp2_with fail
  refine (RfW.inflate_limit s win most _ h).mono ?_
  rintro e w2 ⟨rfl, rfl⟩
  go_wp2
  go_ret
  exact ⟨rfl, Below.refl _ _⟩
theorem walk_go (s : ByteArray) (win most : Nat) (eb : Addr) (w : World) (hs : s.size ≤ 140737488351232) (h1 : 1 ≤ win) (h2 : win ≤ 32768) (h3 : most ≤ 16777216) (hE : Pr.EndIs w eb) (hO : Pr.OrderIs w) (hT : Pr.TypeIs w) :
    Calls Tryz.prog 3 #[.string s, .int .i64 (win : Int), .int .i64 (most : Int)] w fun e w' => e = .returned (.bool true) ∧ Below w.heap.size w w' := by
  have hg : 7 ≤ w.heap.size := by have := Er.cell_lt (hO 0 (by omega)); simp at this; omega
  have hV : ∃ o n c, RfW.inflV (RfW.inflU s win most) = .tuple #[.string o, .int .i64 n, .int .i64 c] := by
    unfold RfW.inflV
    split
    · exact ⟨_, _, _, rfl⟩
    · exact ⟨_, _, _, rfl⟩
  obtain ⟨o, n, c, hV⟩ := hV
  have HP := Pr.inflate_go s win most eb w (by omega) h1 h2 h3 hE hO hT hg
  have HR := fun w' => RfW.inflate_go s win most w' hs h1 h2 h3
  rw [hV] at HP
  simp only [hV] at HR
  clear hV
  go_enter Tryz.func3, Tryz.ntmps3
  go_wp2_with fail
  refine HP.mono ?_
  rintro e w1 ⟨rfl, hb1⟩
  go_wp2_with fail
  refine (HR _).mono ?_
  rintro e w2 ⟨rfl, hb2⟩
  have HB : Hid (Below w.heap.size w w2) := hb1.trans (hb2.mono hb1.size)
  clear hb1 hb2 HP HR
  go_wp2
  go_ret
  exact ⟨rfl, HB.out⟩
theorem walk (s : ByteArray) (win most : Int) (eb : Addr) (w : World) (hs : s.size ≤ 140737488351232) (hE : Pr.EndIs w eb) (hO : Pr.OrderIs w) (hT : Pr.TypeIs w) :
    Calls Tryz.prog 3 #[.string s, .int .i64 win, .int .i64 most] w fun e w' => e = .returned (.bool true) ∧ Below w.heap.size w w' := by
  by_cases h : win < 1 ∨ 32768 < win ∨ most < 0 ∨ 16777216 < most
  · exact walk_limit s win most w h
  · obtain ⟨a, rfl⟩ : ∃ a : Nat, win = a := ⟨win.toNat, by omega⟩
    obtain ⟨b, rfl⟩ : ∃ b : Nat, most = b := ⟨most.toNat, by omega⟩
    exact walk_go s a b eb w hs (by omega) (by omega) (by omega) hE hO hT

set_option maxRecDepth 100000 in
theorem lifted (os : Os) (started : os.Started) (H : Type) (enc : TypeId × Value → H) :
    ReturnsInHanded {} Tryz.checked os 3 .any (fun w args => (Rows.inflatesSpec.pre enc Tryz.prog Tryz.f3 [] false w args ∧ laidMetH Tryz.prog laid w) ∧ sizedMet enc Tryz.prog Tryz.f3 (OpenSpec.ofChange Rows.inflatesSpec) false w args)
      (Rows.inflatesSpec.post enc Tryz.prog Tryz.f3 false true false false) := by
  refine returnsInHanded_of_change_and (C := Tryz.checked) (X := fun w _ => laidMetH Tryz.prog laid w) (fun _ _ _ hh h => h.of_heap hh) own started (by kernel_rfl) Tryz.func3
    (ChangeSpec.witness_shaped (enc := enc) (C := Tryz.checked) (os := os) (X := fun w _ => laidMetH Tryz.prog laid w) false (World.doorLaid Tryz.prog 95 os) #[.string ByteArray.empty, .int .i64 0, .int .i64 0] 8 rfl (World.shaped_of_RefB (by kernel_rfl) (by kernel_rfl)) (by kernel_rfl) (by kernel_rfl) (by kernel_rfl) (door_met os _)) ?_
  intro W base args ds gs before hval0 hW _ hsz0 hL _
  have hval : ∀ (j : Nat) t v, Tryz.f3.params[j]? = some t → args[j]? = some v → Value.okWide Tryz.prog W .any base t v := hval0
  have hsz : (DataW.weightsEach Tryz.prog (Tryz.f3.params.toList ++ Rows.inflatesSpec.plain.varTypes Tryz.prog) (ds ++ gs)).all (· ≤ reachBytes) = true := hsz0
  have hW' := hW
  obtain ⟨p, q, hA0, hV, rfl, hfz, hnd⟩ := hW
  have hA : DataW.TrodAll enc Tryz.prog W 0 (fun _ => true) true Tryz.f3.params.toList args.toList ds p := hA0
  rw [Tryz.params3] at hA hval hsz
  obtain ⟨v0, vs0, d0, ds0, p0, q0, hargs, rfl, rfl, h0, r0⟩ := trodAll_cons hA
  obtain ⟨v1, vs1, d1, ds1, p1, q1, rfl, rfl, rfl, h1, r1⟩ := trodAll_cons r0
  obtain ⟨v2, vs2, d2, ds2, p2, q2, rfl, rfl, rfl, h2, r2⟩ := trodAll_cons r1
  obtain ⟨rfl, rfl, rfl⟩ := trodAll_nil r2
  obtain rfl : args = #[v0, v1, v2] := by cases args; simp_all
  obtain ⟨rfl, rfl⟩ := trodVars_none hV
  obtain ⟨a0, rfl, rfl, rfl, w0⟩ := open_string Tryz.underlying9 (hval 0 9 v0 rfl rfl) h0
  obtain ⟨a1, rfl, rfl, rfl, w1⟩ := open_int Tryz.underlying3 (hval 1 3 v1 rfl rfl) h1
  obtain ⟨a2, rfl, rfl, rfl, w2⟩ := open_int Tryz.underlying3 (hval 2 3 v2 rfl rfl) h2
  have hr0 : a0.size ≤ 140737488351232 := by
    have := sized_string hsz (j := 0) (t := 9) (bytes := a0.data.toList) rfl rfl
    simpa [reachBytes] using this
  obtain ⟨eb, hE⟩ := end_of_laid hL
  have hO := order_of_laid hL
  have hT := type_of_laid hL
  clear hA0 hval0
  refine (walk a0 a1 a2 eb W hr0 hE hO hT).mono fun e W' ⟨he, bel⟩ => ?_
  subst he
  exact ⟨_, rfl, _, _, _, [], _, [], hW', trodAll_mk1 (shut_bool Tryz.underlying4 _), (trodAll_cons_mk (shut_string Tryz.underlying9 w0) (trodAll_cons_mk (shut_int Tryz.underlying3 w1) (trodAll_cons_mk (shut_int Tryz.underlying3 w2) trodAll_mk0))), rfl, bel.frame _, fun h => by cases h⟩

theorem row_holds : Rows.InflatesSaid :=
  OpenClaim.holds_of_wide 3 Tryz.f3 rfl rfl rfl rfl rfl rfl rfl ⟨rfl, rfl, rfl, rfl, rfl⟩ rfl rfl rfl rfl rfl (by kernel_rfl) Tryz.func3 (by kernel_rfl)
    (of_decide_eq_true (by kernel_rfl)) (by unfold Func.isWrapper; first | (rw [if_pos (by decide +kernel)]; kernel_rfl) | (rw [if_neg (by decide +kernel)]; exact ⟨rfl, rfl⟩))
    (fun os started H enc _ => lifted os started H enc)
end Go.Proofs.YtephkcdbnogdhaaGreatDoor.inflates
namespace Go.Proofs.YtephkcdbnogdhaaGreatDoor
open Go
/-- THE TIED CARD. -/
theorem inflates_card : Rows.InflatesCardSaid :=
  Claim7.holds_tied_plain_at .later [] [.handle, .sentinel, .sentinel, .sentinel, .data] true (true, "2e3f9270758ae21e698f49797578a958a6831d537dbc3c8810530139e0af1668") true
    inflates.row_holds (fun _ h => by cases h) (by kernel_rfl) (fun _ h => by cases h) inflates_row_tie rfl ⟨rfl, rfl⟩ (by kernel_rfl) rfl
    (fun f fn hf hfn => by
      obtain rfl : f = 3 := Option.some.inj ((show Tryz.prog.funcNamed "vellum/vellumlaw.Inflates" = some 3 by kernel_rfl).symm.trans hf) |>.symm
      obtain rfl : fn = Tryz.f3 := (Option.some.inj (Tryz.func3.symm.trans hfn)).symm
      exact ⟨by kernel_rfl, fun j t ht => by
        rw [Tryz.params3] at ht
        have hm : t ∈ [9, 3, 3] := by simpa using Array.mem_of_getElem? ht
        have hall : ([9, 3, 3].all fun u => !Tryz.prog.wantsStandIn u) = true := by kernel_rfl
        exact (show Tryz.prog.wantsStandIn t = false by simpa using List.all_eq_true.1 hall t hm)⟩)
    (by kernel_rfl)
#print axioms inflates_card
end Go.Proofs.YtephkcdbnogdhaaGreatDoor
