/- What the six calls of the law Packed answer. -/
import Derived.Test.YtephkcdbnogdhaaGreatDoorMY
import Derived.Test.YtephkcdbnogdhaaGreatDoorUnw
import Derived.ChangeShapes
import Derived.WideShapes
import Derived.ChangeAt
import Derived.ChangeArms
import Derived.OpenShut
set_option linter.unusedVariables false
namespace Go.Proofs.YtephkcdbnogdhaaGreatDoor.Pr
open Go.RowKit Rf
open RfW (inflU inflV)
open AdW (one)
open Ad (adl)
theorem txt_size (l : List UInt8) : (⟨l.toArray⟩ : ByteArray).size = l.length := by show l.toArray.size = _; simp
theorem txt_app (l : List UInt8) (s : ByteArray) : (⟨l.toArray⟩ : ByteArray) ++ s = ⟨(l ++ s.data.toList).toArray⟩ := by
  apply ByteArray.ext
  simp [ByteArray.data_append]
theorem txt_app2 (l m : List UInt8) : (⟨l.toArray⟩ : ByteArray) ++ ⟨m.toArray⟩ = ⟨(l ++ m).toArray⟩ := by rw [txt_app]
theorem txt_cut (l : List UInt8) (n : Nat) : (⟨l.toArray⟩ : ByteArray).extract 0 n = ⟨(l.take n).toArray⟩ := by
  apply ByteArray.ext
  simp [ByteArray.data_extract]
theorem txt_rest (l : List UInt8) (n : Nat) : (⟨l.toArray⟩ : ByteArray).extract n l.length = ⟨(l.drop n).toArray⟩ := by
  apply ByteArray.ext
  simp [ByteArray.data_extract]
  exact List.take_of_length_le (by simp)
theorem byteAt_txt (l m : List UInt8) (j : Nat) : byteAt ⟨(l ++ m).toArray⟩ (l.length + j) = (m.getD j 0).toNat := by
  unfold byteAt
  simp only [List.getD_eq_getElem?_getD]
  rw [List.getElem?_append_right (by omega), show l.length + j - l.length = j by omega]
theorem lit7 : (litB 256).length = 7 := by rw [litB_len]; decide
section
variable {B : List Nat} {out : List UInt8} {most : Nat} (hW : Wrote B out most)
include hW
theorem all01 : B01 (B ++ litB 256) := hW.bits.1.append (codeB_01 _ _)
omit hW in
theorem pk_len : (packB (B ++ litB 256)).length = (B.length + 14) / 8 := by rw [packB_len, List.length_append, lit7]
theorem ans_ok (rest : List UInt8) (win mst : Nat) (h1 : most ≤ win) (h2 : out.length ≤ mst) : inflU ⟨(packB (B ++ litB 256) ++ rest).toArray⟩ win mst = ⟨⟨B.length + 7, false⟩, out⟩ := by
  have hb := hW.bits
  have hsz : (⟨(packB (B ++ litB 256) ++ rest).toArray⟩ : ByteArray).size = (B.length + 14) / 8 + rest.length := by rw [txt_size, List.length_append, pk_len]
  exact (infl_wrote hW _ win mst (hasBits_pack (all01 hW) rest) (by omega) (by omega)).1 ⟨h1, h2, by omega⟩
theorem ans_bad (rest : List UInt8) (win mst : Nat) (h0 : 1 ≤ win) (h : ¬ (most ≤ win ∧ out.length ≤ mst)) : (inflU ⟨(packB (B ++ litB 256) ++ rest).toArray⟩ win mst).st.bad = true := by
  have hb := hW.bits
  have hsz : (⟨(packB (B ++ litB 256) ++ rest).toArray⟩ : ByteArray).size = (B.length + 14) / 8 + rest.length := by rw [txt_size, List.length_append, pk_len]
  exact (infl_wrote hW _ win mst (hasBits_pack (all01 hW) rest) h0 (by omega)).2 (fun hh => h ⟨hh.1, hh.2.1⟩)
theorem ans_cut (win mst : Nat) (h0 : 1 ≤ win) : (inflU ⟨((packB (B ++ litB 256)).take ((packB (B ++ litB 256)).length - 1)).toArray⟩ win mst).st.bad = true := by
  have hb := hW.bits
  have hsz : (⟨((packB (B ++ litB 256)).take ((packB (B ++ litB 256)).length - 1)).toArray⟩ : ByteArray).size = (B.length + 14) / 8 - 1 := by rw [txt_size, List.length_take, pk_len]; omega
  exact (infl_wrote hW _ win mst (hasBits_cut (all01 hW) _) h0 (by omega)).2 (fun hh => by have := hh.2.2; omega)
omit hW in
theorem inflV_bad {u : US} (h : u.st.bad = true) : inflV u = .tuple #[.string ⟨#[]⟩, .int .i64 0, .int .i64 3] := by unfold inflV; rw [if_pos h]
theorem ans1 (s : ByteArray) (P : List UInt8) (hP : P = packB (B ++ litB 256)) : inflV (inflU (⟨P.toArray⟩ ++ s) most out.length) = .tuple #[.string ⟨out.toArray⟩, .int .i64 (P.length : Int), .int .i64 0] := by
  subst hP
  rw [txt_app, ans_ok hW _ most out.length (Nat.le_refl _) (Nat.le_refl _), pk_len]
  rfl
theorem ans2 (P : List UInt8) (hP : P = packB (B ++ litB 256)) : inflV (inflU ((⟨P.toArray⟩ : ByteArray).extract 0 (P.length - 1)) most out.length) = .tuple #[.string ⟨#[]⟩, .int .i64 0, .int .i64 3] := by
  subst hP
  rw [txt_cut]
  exact inflV_bad (ans_cut hW most out.length hW.bits.2.2)
theorem ans3 (P : List UInt8) (hP : P = packB (B ++ litB 256)) (h : 1 < most) : inflV (inflU ⟨P.toArray⟩ (most - 1) out.length) = .tuple #[.string ⟨#[]⟩, .int .i64 0, .int .i64 3] := by
  subst hP
  have := ans_bad hW [] (most - 1) out.length (by omega) (fun hh => by have := hh.1; omega)
  rw [List.append_nil] at this
  exact inflV_bad this
theorem ans4 (P : List UInt8) (hP : P = packB (B ++ litB 256)) (h : 0 < out.length) : inflV (inflU ⟨P.toArray⟩ most (out.length - 1)) = .tuple #[.string ⟨#[]⟩, .int .i64 0, .int .i64 3] := by
  subst hP
  have := ans_bad hW [] most (out.length - 1) hW.bits.2.2 (fun hh => by have := hh.2; omega)
  rw [List.append_nil] at this
  exact inflV_bad this
omit hW in
theorem wr_is (P out : List UInt8) : wrB ⟨P.toArray⟩ ⟨out.toArray⟩ = ⟨([120, 1] ++ P ++ fourB (one (adl 1 0 out))).toArray⟩ := by
  unfold wrB
  show (⟨([120, 1] : List UInt8).toArray⟩ : ByteArray) ++ ⟨P.toArray⟩ ++ ⟨(fourB (one (adl 1 0 (out.toArray).toList))).toArray⟩ = _
  rw [txt_app2, txt_app2]
omit hW in
theorem wr_size (P out : List UInt8) : (wrB ⟨P.toArray⟩ ⟨out.toArray⟩).size = P.length + 6 := by
  rw [wr_is, txt_size, List.length_append, List.length_append]
  show 2 + P.length + 4 = _
  omega
theorem wr_U (mst : Nat) (h2 : out.length ≤ mst) (hm : most ≤ 32768) : wU (wrB ⟨(packB (B ++ litB 256)).toArray⟩ ⟨out.toArray⟩) mst = ⟨⟨B.length + 7, false⟩, out⟩ := by
  have hsz := wr_size (packB (B ++ litB 256)) out
  unfold wU
  rw [hsz, wr_is]
  have e0 : byteAt ⟨([120, 1] ++ packB (B ++ litB 256) ++ fourB (one (adl 1 0 out))).toArray⟩ 0 = 120 := rfl
  rw [e0, show pw (120 / 16 + 8) = 32768 from rfl]
  have e1 : (⟨([120, 1] ++ packB (B ++ litB 256) ++ fourB (one (adl 1 0 out))).toArray⟩ : ByteArray).extract 2 ((packB (B ++ litB 256)).length + 6) = ⟨(packB (B ++ litB 256) ++ fourB (one (adl 1 0 out))).toArray⟩ := by
    have := txt_rest ([120, 1] ++ packB (B ++ litB 256) ++ fourB (one (adl 1 0 out))) 2
    rw [show (([120, 1] : List UInt8) ++ packB (B ++ litB 256) ++ fourB (one (adl 1 0 out))).length = (packB (B ++ litB 256)).length + 6 by
      rw [List.length_append, List.length_append]; show 2 + _ + 4 = _; omega] at this
    rw [this]
    rfl
  rw [e1]
  exact ans_ok hW _ 32768 mst hm h2
theorem ans5 (P : List UInt8) (hP : P = packB (B ++ litB 256)) (hm : most ≤ 32768) : unwA (wrB ⟨P.toArray⟩ ⟨out.toArray⟩) out.length = (⟨out.toArray⟩, 0) := by
  subst hP
  have hU := wr_U hW out.length (Nat.le_refl _) hm
  have hsz := wr_size (packB (B ++ litB 256)) out
  have hone := one_lt4 out
  have hq : 2 + (B.length + 7 + 7) / 8 = ([120, 1] ++ packB (B ++ litB 256)).length := by rw [List.length_append, pk_len]; show _ = 2 + _; omega
  have hb : ∀ j, byteAt (wrB ⟨(packB (B ++ litB 256)).toArray⟩ ⟨out.toArray⟩) (2 + (B.length + 7 + 7) / 8 + j) = ((fourB (one (adl 1 0 out))).getD j 0).toNat := fun j => by
    rw [wr_is, hq]; exact byteAt_txt _ _ j
  have hWO : WOk (wrB ⟨(packB (B ++ litB 256)).toArray⟩ ⟨out.toArray⟩) out.length (fun _ => True) := by
    unfold WOk
    rw [hU]
    have p0 : byteAt (wrB ⟨(packB (B ++ litB 256)).toArray⟩ ⟨out.toArray⟩) 0 = 120 := by rw [wr_is]; rfl
    have p1 : byteAt (wrB ⟨(packB (B ++ litB 256)).toArray⟩ ⟨out.toArray⟩) 1 = 1 := by rw [wr_is]; rfl
    refine ⟨⟨by omega, ?_⟩, rfl, rfl, ⟨?_, ?_, ?_, ?_, ?_⟩, ?_, trivial⟩
    · rw [p0, p1]; unfold headOk; omega
    · show 2 + (B.length + 7 + 7) / 8 + 4 ≤ _; rw [hsz, pk_len]; omega
    · refine (hb 0).trans ?_; show (UInt8.ofNat _).toNat = _; rw [UInt8.toNat_ofNat']
    · refine (hb 1).trans ?_; show (UInt8.ofNat _).toNat = _; rw [UInt8.toNat_ofNat']
    · refine (hb 2).trans ?_; show (UInt8.ofNat _).toNat = _; rw [UInt8.toNat_ofNat']
    · refine (hb 3).trans ?_; show (UInt8.ofNat _).toNat = _; rw [UInt8.toNat_ofNat']
    · show 2 + (B.length + 7 + 7) / 8 + 4 = _; rw [hsz, pk_len]; omega
  unfold unwA
  rw [if_pos hWO, hU]
theorem ans6 (P : List UInt8) (hP : P = packB (B ++ litB 256)) (hm : most ≤ 32768) : unwA (wrB ⟨P.toArray⟩ ⟨out.toArray⟩) (out.length + 1) = (⟨#[]⟩, 3) := by
  subst hP
  have hU := wr_U hW (out.length + 1) (by omega) hm
  unfold unwA
  rw [if_neg]
  intro h
  have := h.2.2.1
  rw [hU] at this
  have this : out.length = out.length + 1 := this
  omega
end
/-- what a call finds of the package's variables -/
structure Env (w : World) (eb : Addr) : Prop where
  e : EndIs w eb
  o : OrderIs w
  t : TypeIs w
  g : 7 ≤ w.heap.size
theorem Env.below {w w' : World} {eb : Addr} {k : Nat} (h : Env w eb) (hb : Below k w w') (hk : 7 ≤ k) : Env w' eb := by
  refine ⟨h.e.over (hb.block _ (by omega)), fun i hi => ?_, h.t.over (fun k hk => hb.block k (by omega)), Nat.le_trans h.g hb.size⟩
  exact (hb.cell (by show 6 < k; omega)).trans (h.o i hi)
/-- what the calls answer -/
structure Ans (s : ByteArray) (eb : Addr) (B : List Nat) (out : List UInt8) (most : Nat) (PB OB WB : ByteArray) : Prop where
  p : PB = ⟨(packB (B ++ litB 256)).toArray⟩
  o : OB = ⟨out.toArray⟩
  p1 : 1 ≤ PB.size
  p2 : PB.size ≤ 2550
  o2 : OB.size = out.length
  i1 : ∀ ww, Env ww eb → Calls Tryz.prog 12 #[.string (PB ++ s), .int .i64 (most : Int), .int .i64 (out.length : Int)] ww fun e w' => e = .returned (.tuple #[.string OB, .int .i64 (PB.size : Int), .int .i64 0]) ∧ Below ww.heap.size ww w'
  i2 : ∀ ww, Env ww eb → Calls Tryz.prog 12 #[.string (PB.extract 0 (PB.size - 1)), .int .i64 (most : Int), .int .i64 (out.length : Int)] ww fun e w' => e = .returned (.tuple #[.string ⟨#[]⟩, .int .i64 0, .int .i64 3]) ∧ Below ww.heap.size ww w'
  i3 : 1 < most → ∀ (z : Int), z = (most : Int) - 1 → ∀ ww, Env ww eb → Calls Tryz.prog 12 #[.string PB, .int .i64 z, .int .i64 (out.length : Int)] ww fun e w' => e = .returned (.tuple #[.string ⟨#[]⟩, .int .i64 0, .int .i64 3]) ∧ Below ww.heap.size ww w'
  i4 : 0 < out.length → ∀ (z : Int), z = (out.length : Int) - 1 → ∀ ww, Env ww eb → Calls Tryz.prog 12 #[.string PB, .int .i64 (most : Int), .int .i64 z] ww fun e w' => e = .returned (.tuple #[.string ⟨#[]⟩, .int .i64 0, .int .i64 3]) ∧ Below ww.heap.size ww w'
  wr : ∀ ww : World, Calls Tryz.prog 25 #[.string PB, .string OB] ww fun e w' => e = .returned (.string WB) ∧ Below ww.heap.size ww w'
  u5 : ∀ ww, Env ww eb → Calls Tryz.prog 14 #[.string WB, .int .i64 (out.length : Int)] ww fun e w' => e = .returned (.tuple #[.string OB, .int .i64 0]) ∧ Below ww.heap.size ww w'
  u6 : ∀ (z : Int), z = (out.length : Int) + 1 → ∀ ww, Env ww eb → Calls Tryz.prog 14 #[.string WB, .int .i64 z] ww fun e w' => e = .returned (.tuple #[.string ⟨#[]⟩, .int .i64 3]) ∧ Below ww.heap.size ww w'
theorem answers {B : List Nat} {out : List UInt8} {most : Nat} (hW : Wrote B out most) (s : ByteArray) (eb : Addr) (hm : most ≤ 32768) (hB : B.length ≤ 20003) (ho : out.length ≤ 1000000) (hs : s.size ≤ 140737488351232) : ∃ PB OB WB, Ans s eb B out most PB OB WB := by
  have h1 := hW.bits.2.2
  have h3 := hW.bits.2.1
  have hps : (⟨(packB (B ++ litB 256)).toArray⟩ : ByteArray).size = (B.length + 14) / 8 := by rw [txt_size, pk_len]
  have hws := wr_size (packB (B ++ litB 256)) out
  rw [pk_len] at hws
  refine ⟨⟨(packB (B ++ litB 256)).toArray⟩, ⟨out.toArray⟩, wrB ⟨(packB (B ++ litB 256)).toArray⟩ ⟨out.toArray⟩, rfl, rfl, by omega, by omega, txt_size _, ?_, ?_, ?_, ?_, ?_, ?_, ?_⟩
  · intro ww hE
    have := inflate_go (⟨(packB (B ++ litB 256)).toArray⟩ ++ s) most out.length eb ww (by rw [ByteArray.size_append]; omega) h1 hm (by omega) hE.e hE.o hE.t hE.g
    rw [ans1 hW s _ rfl] at this
    rw [txt_size]
    exact this
  · intro ww hE
    have := inflate_go ((⟨(packB (B ++ litB 256)).toArray⟩ : ByteArray).extract 0 ((packB (B ++ litB 256)).length - 1)) most out.length eb ww (by rw [ByteArray.size_extract]; omega) h1 hm (by omega) hE.e hE.o hE.t hE.g
    rw [ans2 hW _ rfl] at this
    rw [txt_size]
    exact this
  · intro hmo z hz ww hE
    have := inflate_go ⟨(packB (B ++ litB 256)).toArray⟩ (most - 1) out.length eb ww (by omega) (by omega) (by omega) (by omega) hE.e hE.o hE.t hE.g
    rw [ans3 hW _ rfl hmo, show ((most - 1 : Nat) : Int) = z by omega] at this
    exact this
  · intro hmo z hz ww hE
    have := inflate_go ⟨(packB (B ++ litB 256)).toArray⟩ most (out.length - 1) eb ww (by omega) h1 hm (by omega) hE.e hE.o hE.t hE.g
    rw [ans4 hW _ rfl hmo, show ((out.length - 1 : Nat) : Int) = z by omega] at this
    exact this
  · intro ww
    exact wrapped_any _ _ ww (by omega) (by rw [txt_size]; omega)
  · intro ww hE
    have := unwrap_both (wrB ⟨(packB (B ++ litB 256)).toArray⟩ ⟨out.toArray⟩) out.length eb ww (by omega) (by omega) hE.e hE.o hE.t hE.g
    rw [ans5 hW _ rfl hm] at this
    exact this
  · intro z hz ww hE
    have := unwrap_both (wrB ⟨(packB (B ++ litB 256)).toArray⟩ ⟨out.toArray⟩) (out.length + 1) eb ww (by omega) (by omega) hE.e hE.o hE.t hE.g
    rw [ans6 hW _ rfl hm, show ((out.length + 1 : Nat) : Int) = z by omega] at this
    exact this
end Go.Proofs.YtephkcdbnogdhaaGreatDoor.Pr
/- The walk of the law Packed: what is written, what it stands for, the six answers. -/
set_option linter.unusedVariables false
namespace Go.Proofs.YtephkcdbnogdhaaGreatDoor.Pr
open Go.RowKit Rf
open RfW (byteCells byteCells_snoc inflU inflV)
theorem cpO_snoc (far n : Nat) : ∀ out, cpO far (n + 1) out = cpO far n out ++ [(cpO far n out).getD ((cpO far n out).length - far) 0] := by
  induction n with
  | zero => intro out; rfl
  | succ n ih => intro out; rw [cpO, ih]; rfl
/-- a row of tokens: three numbers each -/
def TokAt (w : World) (lv : Value) (n : Nat) : Prop := ∃ (la : Option Addr) (cap : Nat), lv = .slice la n cap ∧ n ≤ maxLen ∧ ∀ i, i < n → ∃ (a : Addr) (x y z : Int), la = some a ∧ a.block < w.heap.size ∧
  w.cell? (a.add (i * 3)) = some (.int .i64 x) ∧ w.cell? ((a.add (i * 3)).add 1) = some (.int .i64 y) ∧ w.cell? ((a.add (i * 3)).add 2) = some (.int .i64 z) ∧
  -9223372036854775808 ≤ x ∧ x ≤ 9223372036854775807 ∧ -9223372036854775808 ≤ y ∧ y ≤ 9223372036854775807 ∧ -9223372036854775808 ≤ z ∧ z ≤ 9223372036854775807
theorem TokAt.below {w w' : World} {lv : Value} {n : Nat} (h : TokAt w lv n) (hb : Below w.heap.size w w') : TokAt w' lv n := by
  obtain ⟨la, cap, e, hm, hc⟩ := h
  refine ⟨la, cap, e, hm, fun i hi => ?_⟩
  obtain ⟨a, x, y, z, e1, e2, c0, c1, c2, hr⟩ := hc i hi
  have ab : ∀ k, (a.add k).block = a.block := fun k => by unfold Addr.add; split <;> rfl
  have ab2 : ∀ k j, ((a.add k).add j).block = a.block := fun k j => by
    rw [← ab k]; generalize a.add k = c; unfold Addr.add; split <;> rfl
  exact ⟨a, x, y, z, e1, Nat.lt_of_lt_of_le e2 hb.size, (hb.cell (by rw [ab]; exact e2)).trans c0, (hb.cell (by rw [ab2]; exact e2)).trans c1, (hb.cell (by rw [ab2]; exact e2)).trans c2, hr⟩
/-- what the law's loop keeps -/
structure LoopAt (w0 w : World) (wb : Nat) (rv ov : Value) (B : List Nat) (out : List UInt8) : Prop where
  wr : WrAt w wb w0.heap.size rv B
  own : w.ownsRow w0.heap.size 5 1 ov out.length (byteCells out)
  ne : ∀ k, ov.ownBlock = some k → k ≠ wb ∧ rv.ownBlock ≠ some k
  below : Below w0.heap.size w0 w
theorem LoopAt.write {w0 w w' : World} {wb : Nat} {rv rv' ov : Value} {B B' : List Nat} {out : List UInt8} (h : LoopAt w0 w wb rv ov B out) (hw : WrAt w' wb w0.heap.size rv' B') (hf : Fr (fun k => k = wb ∨ rv.ownBlock = some k) w w') (ho : ∀ k, rv'.ownBlock = some k → rv.ownBlock = some k ∨ w.heap.size ≤ k) : LoopAt w0 w' wb rv' ov B' out := by
  refine ⟨hw, ownsRow_over h.own (fun k hk => hf.block k (h.own.lt k hk).2 (fun e => e.elim (h.ne k hk).1 (h.ne k hk).2)), fun k hk => ⟨(h.ne k hk).1, fun e => ?_⟩, h.below.trans ⟨hf.os, hf.tape, hf.output, hf.size, fun k hk => hf.block k (by have := h.below.size; omega) (fun e => ?_)⟩⟩
  · rcases ho k e with e2 | e2
    · exact (h.ne k hk).2 e2
    · have := (h.own.lt k hk).2; omega
  · rcases e with e | e
    · have := h.wr.2.2.2.2; omega
    · have := (h.wr.2.1.lt k e).1; omega
theorem LoopAt.push {w0 w w' : World} {wb : Nat} {rv ov ov' : Value} {B : List Nat} {out : List UInt8} {x : UInt8} {blk : Obj} {n : Nat} (h : LoopAt w0 w wb rv ov B out) (hn : n = out.length + 1) (hown : w'.ownsRow w0.heap.size 5 1 ov' n (byteCells out ++ [.int .u8 ((x.toNat : Nat) : Int)])) (hg : (w.alloc blk).grownBy w' ov.ownBlock) (ho : ∀ k, ov'.ownBlock = some k → ov.ownBlock = some k ∨ w.heap.size ≤ k) : LoopAt w0 w' wb rv ov' B (out ++ [x]) := by
  subst hn
  have hwb := RfW.lt_of_blk h.wr.1
  have hnw : ov.ownBlock ≠ some wb := fun e => (h.ne wb e).1 rfl
  have hsz : w.heap.size ≤ w'.heap.size := by have := hg.size; simp at this; omega
  have hsame : ∀ k, k < w.heap.size → some k ≠ ov.ownBlock → w'.heap[k]? = w.heap[k]? := fun k hk hne => (hg.block k (by simp; omega) hne).trans (alloc_old hk)
  refine ⟨⟨(RfW.grown_cell hg h.wr.1 (Ne.symm hnw)).1, ownsRow_over h.wr.2.1 (fun k hk => hsame k (h.wr.2.1.lt k hk).2 (fun e => (h.ne k e.symm).2 hk)), h.wr.2.2.1, by have := h.wr.2.2.2.1; omega, h.wr.2.2.2.2⟩, ?_, fun k hk => ?_, h.below.trans ⟨hg.os, hg.tape, hg.output, hsz, fun k hk => hsame k (by have := h.below.size; omega) (fun e => ?_)⟩⟩
  · rw [byteCells_snoc, List.length_append, List.length_singleton]; exact hown
  · rcases ho k hk with e | e
    · exact h.ne k e
    · exact ⟨by omega, fun e2 => by have := (h.wr.2.1.lt k e2).2; omega⟩
  · have := (h.own.lt k e.symm).1; omega
theorem LoopAt.lens {w0 w : World} {wb : Nat} {rv ov : Value} {B : List Nat} {out : List UInt8} (h : LoopAt w0 w wb rv ov B out) : ∃ (ao : Option Addr) (cap : Nat), ov = .slice ao out.length cap := by
  rcases h.own.2 with ⟨rfl, h0⟩ | ⟨g, cap, cur, rfl, _⟩
  · exact ⟨none, 0, by rw [h0]⟩
  · exact ⟨some ⟨g, 0, none⟩, cap, rfl⟩
theorem pick_byte (c : Int) (h0 : -9223372036854775808 ≤ c) (h1 : c ≤ 9223372036854775807) :
    ∃ X : UInt8, ∀ w : World, Calls Tryz.prog 22 #[.int .i64 c, .int .i64 256] w fun e w' => e = .returned (.int .i64 ((X.toNat : Nat) : Int)) ∧ w' = w := by
  obtain ⟨d, hd, h⟩ := pick_nat c 256 h0 h1 (by omega) (by omega)
  refine ⟨UInt8.ofNat d, fun w => ?_⟩
  have e : (UInt8.ofNat d).toNat = d := by rw [UInt8.toNat_ofNat']; omega
  rw [e]
  exact h w
theorem matB_le (n far y d : Nat) (hy : LenOk n y) (hd : DistOk far d) : (matB n far y d).length ≤ 33 := by
  have h1 := litB_len y
  have h2 := (litC_bd y (by have := hy.2.1; omega)).2.1
  have h3 : (lenT y).2 ≤ 6 := by
    unfold lenT
    split
    · exact Nat.zero_le _
    · exact lenBits_le y hy.2.1
  have h4 : (distT d).2 ≤ 13 := distBits_le d hd.1
  unfold matB
  rw [List.length_append, List.length_append, List.length_append, lowB_len, lowB_len, codeB_len]
  omega
set_option maxRecDepth 100000 in
set_option maxHeartbeats 8000000 in
theorem packed_any (lv : Value) (n : Nat) (s : ByteArray) (eb : Addr) (w : World) (hT : TokAt w lv n) (hs : s.size ≤ 140737488351232) (hEn : Env w eb) :
    Calls Tryz.prog 7 #[lv, .string s] w fun e w' => e = .returned (.bool true) ∧ Below w.heap.size w w' := by
  have HT : Hid _ := hT
  obtain ⟨la, cap, rfl, hm, -⟩ := hT
  have hm' : n ≤ 9223372036854775807 := by unfold maxLen at hm; omega
  clear hm
  have hW0 : WrAt (w.alloc (.cells #[.slice none 0 0, .int .i64 0] 47)) w.heap.size w.heap.size (.slice none 0 0) [] := ⟨(MapKept.heap_alloc w _).1, World.ownsRow_nil _ _ _ _, (fun x hx => by cases hx), (by simp), Nat.le_refl _⟩
  have hlow := low_any w.heap.size w.heap.size _ [] 3 3 _ hW0 (by omega) (by omega) (by simp)
  have HB0 : Hid (Below w.heap.size w (w.alloc (.cells #[.slice none 0 0, .int .i64 0] 47))) := (Below.refl _ _).alloc (Nat.le_refl _) _
  clear hW0
  go_enter Tryz.func7, Tryz.ntmps7
  go_wp2_with fail
  refine hlow.mono ?_
  clear hlow
  rintro e w1 ⟨rfl, rv0, hW1, hF1, hO1⟩
  have hL0 : LoopAt w w1 w.heap.size rv0 (.slice none 0 0) [1, 1, 0] [] := ⟨hW1, World.ownsRow_nil _ _ _ _, fun k hk => by simp [Value.ownBlock] at hk, HB0.out.trans ⟨hF1.os, hF1.tape, hF1.output, hF1.size, fun k hk => hF1.block k (by simp; omega) (fun e => by
    rcases e with e | e
    · omega
    · simp [Value.ownBlock] at e)⟩⟩
  clear HB0 hF1 hO1 hW1
  go_wp2_with fail
  go_loopw [6, 7, 8] (fun ov mv iv wr => ∃ (i most : Nat) (rv : Value) (B : List Nat) (out : List UInt8), i ≤ 400 ∧ i ≤ n ∧ iv = .int .i64 (i : Int) ∧ mv = .int .i64 (most : Int) ∧ LoopAt w wr w.heap.size rv ov B out ∧ Wrote B out most ∧ most ≤ 32768 ∧ B.length ≤ 3 + 40 * i ∧ out.length ≤ 258 * i) (fun _ _ iv _ => 400 - (intOf iv).toNat)
  case atStart => exact ⟨0, 1, rv0, _, _, by omega, by omega, rfl, rfl, hL0, .nil, by omega, by simp, by simp⟩
  case round =>
    clear hL0
    obtain ⟨i, most, rv, B, out, hi4, hin, rfl, rfl, hL, hWr, hmo, hBl, hol⟩ := hrel
    by_cases hlt : i < n ∧ i < 400
    rotate_left
    · have hW2 := hWr
      have hlit := literal_any w.heap.size w.heap.size rv B 256 wr hL.wr (by omega) (by omega)
      obtain ⟨PB, OB, WB, A⟩ := answers hWr s eb hmo (by omega) (by omega) hs
      have HA : Hid _ := A
      have HL : Hid _ := hL
      have HEN : Hid _ := hEn
      have hp1 := A.p1
      have hp2 := A.p2
      have hoS := A.o2
      have hmo1 := hWr.bits.2.2
      clear A hL hWr hW2
      obtain ⟨ao, ocap, hov⟩ := HL.out.lens
      have HOV : Hid _ := hov
      subst hov
      have hcs : (n ≤ i) ∨ (i < n ∧ decide ((i : Int) < 400) = false) := by
        by_cases h : i < n
        · exact .inr ⟨h, decide_eq_false (by omega)⟩
        · exact .inl (by omega)
      clear hlt
      rcases hcs with hcs | ⟨hcs, d400⟩
      all_goals
        go_wp2_with fail
        refine hlit.mono ?_
        clear hlit
        rintro e w2 ⟨rfl, rv2, q1, q2, q3⟩
        have hL2 := HL.out.write q1 q2 q3
        have c0 : w2.cell? ⟨w.heap.size, 0, none⟩ = some rv2 := by simpa using (cell_of q1.1 0).1
        have hcv : (convert 45 9 rv2).run Tryz.prog w2 = .ok (.string PB) w2 := by
          have := conv_own _ hL2.wr.2.1 0
          rw [HA.out.p]; exact this
        have HE2 : Hid (Env w2 eb) := HEN.out.below hL2.below HEN.out.g
        have HL2 : Hid _ := hL2
        have HCV : Hid (∀ w', Below w2.heap.size w2 w' → (convert 45 9 (.slice ao out.length ocap)).run Tryz.prog w' = .ok (.string OB) w') := (fun w' hb => by
          have := conv_own out (ownsRow_over hL2.own (fun k hk => hb.block k (hL2.own.lt k hk).2)) 0
          rw [HA.out.o]; exact this : ∀ _, _)
        clear q1 q2 q3 hL2 HL
        go_wp2_with fail
        refine (HA.out.i1 _ HE2.out).mono ?_
        rintro e w3 ⟨rfl, hb3⟩
        have hcv3 := HCV.out w3 hb3
        have HE3 : Hid (Env w3 eb) := HE2.out.below hb3 HE2.out.g
        have HB3 : Hid (Below w2.heap.size w2 w3) := hb3
        clear hb3 c0 hcv HE2
        go_wp2_with fail
        refine (HA.out.i2 _ HE3.out).mono ?_
        rintro e w4 ⟨rfl, hb⟩
        have HB4 : Hid (Below w2.heap.size w2 w4) := HB3.out.trans (hb.mono HB3.out.size)
        have HE4 : Hid (Env w4 eb) := HE3.out.below hb HE3.out.g
        have hcv4 := HCV.out w4 HB4.out
        clear hb hcv3 HE3 HB3
        by_cases hm1 : 1 < most
        · by_cases ho1 : 0 < out.length
          · go_wp2_with fail
            refine (HA.out.i3 hm1 _ (by omega) _ HE4.out).mono ?_
            rintro e w5 ⟨rfl, hb⟩
            have HB5 : Hid (Below w2.heap.size w2 w5) := HB4.out.trans (hb.mono HB4.out.size)
            have HE5 : Hid (Env w5 eb) := HE4.out.below hb HE4.out.g
            have hcv5 := HCV.out w5 HB5.out
            clear hb hcv4 HE4 HB4
            go_wp2_with fail
            refine (HA.out.i4 ho1 _ (by omega) _ HE5.out).mono ?_
            rintro e w6 ⟨rfl, hb⟩
            have HB6 : Hid (Below w2.heap.size w2 w6) := HB5.out.trans (hb.mono HB5.out.size)
            have HE6 : Hid (Env w6 eb) := HE5.out.below hb HE5.out.g
            have hcv6 := HCV.out w6 HB6.out
            clear hb hcv5 HE5 HB5
            go_wp2_with fail
            refine (HA.out.wr _).mono ?_
            rintro e w7 ⟨rfl, hb⟩
            have HB7 : Hid (Below w2.heap.size w2 w7) := HB6.out.trans (hb.mono HB6.out.size)
            have HE7 : Hid (Env w7 eb) := HE6.out.below hb HE6.out.g
            have hcv7 := HCV.out w7 HB7.out
            clear hb hcv6 HE6 HB6
            go_wp2_with fail
            refine (HA.out.u5 _ HE7.out).mono ?_
            rintro e w8 ⟨rfl, hb⟩
            have HB8 : Hid (Below w2.heap.size w2 w8) := HB7.out.trans (hb.mono HB7.out.size)
            have HE8 : Hid (Env w8 eb) := HE7.out.below hb HE7.out.g
            have hcv8 := HCV.out w8 HB8.out
            clear hb hcv7 HE7 HB7
            go_wp2_with fail
            refine (HA.out.wr _).mono ?_
            rintro e w9 ⟨rfl, hb⟩
            have HB9 : Hid (Below w2.heap.size w2 w9) := HB8.out.trans (hb.mono HB8.out.size)
            have HE9 : Hid (Env w9 eb) := HE8.out.below hb HE8.out.g
            have hcv9 := HCV.out w9 HB9.out
            clear hb hcv8 HE8 HB8
            go_wp2_with fail
            refine (HA.out.u6 _ (by omega) _ HE9.out).mono ?_
            rintro e w10 ⟨rfl, hb⟩
            have HB10 : Hid (Below w2.heap.size w2 w10) := HB9.out.trans (hb.mono HB9.out.size)
            have HE10 : Hid (Env w10 eb) := HE9.out.below hb HE9.out.g
            have hcv10 := HCV.out w10 HB10.out
            clear hb hcv9 HE9 HB9
            go_wp2_with fail
            go_ret
            exact ⟨rfl, HL2.out.below.trans (HB10.out.mono HL2.out.below.size)⟩
          · go_wp2_with fail
            refine (HA.out.i3 hm1 _ (by omega) _ HE4.out).mono ?_
            rintro e w5 ⟨rfl, hb⟩
            have HB5 : Hid (Below w2.heap.size w2 w5) := HB4.out.trans (hb.mono HB4.out.size)
            have HE5 : Hid (Env w5 eb) := HE4.out.below hb HE4.out.g
            have hcv5 := HCV.out w5 HB5.out
            clear hb hcv4 HE4 HB4
            go_wp2_with fail
            refine (HA.out.wr _).mono ?_
            rintro e w6 ⟨rfl, hb⟩
            have HB6 : Hid (Below w2.heap.size w2 w6) := HB5.out.trans (hb.mono HB5.out.size)
            have HE6 : Hid (Env w6 eb) := HE5.out.below hb HE5.out.g
            have hcv6 := HCV.out w6 HB6.out
            clear hb hcv5 HE5 HB5
            go_wp2_with fail
            refine (HA.out.u5 _ HE6.out).mono ?_
            rintro e w7 ⟨rfl, hb⟩
            have HB7 : Hid (Below w2.heap.size w2 w7) := HB6.out.trans (hb.mono HB6.out.size)
            have HE7 : Hid (Env w7 eb) := HE6.out.below hb HE6.out.g
            have hcv7 := HCV.out w7 HB7.out
            clear hb hcv6 HE6 HB6
            go_wp2_with fail
            refine (HA.out.wr _).mono ?_
            rintro e w8 ⟨rfl, hb⟩
            have HB8 : Hid (Below w2.heap.size w2 w8) := HB7.out.trans (hb.mono HB7.out.size)
            have HE8 : Hid (Env w8 eb) := HE7.out.below hb HE7.out.g
            have hcv8 := HCV.out w8 HB8.out
            clear hb hcv7 HE7 HB7
            go_wp2_with fail
            refine (HA.out.u6 _ (by omega) _ HE8.out).mono ?_
            rintro e w9 ⟨rfl, hb⟩
            have HB9 : Hid (Below w2.heap.size w2 w9) := HB8.out.trans (hb.mono HB8.out.size)
            have HE9 : Hid (Env w9 eb) := HE8.out.below hb HE8.out.g
            have hcv9 := HCV.out w9 HB9.out
            clear hb hcv8 HE8 HB8
            go_wp2_with fail
            go_ret
            exact ⟨rfl, HL2.out.below.trans (HB9.out.mono HL2.out.below.size)⟩
        · by_cases ho1 : 0 < out.length
          · go_wp2_with fail
            refine (HA.out.i4 ho1 _ (by omega) _ HE4.out).mono ?_
            rintro e w5 ⟨rfl, hb⟩
            have HB5 : Hid (Below w2.heap.size w2 w5) := HB4.out.trans (hb.mono HB4.out.size)
            have HE5 : Hid (Env w5 eb) := HE4.out.below hb HE4.out.g
            have hcv5 := HCV.out w5 HB5.out
            clear hb hcv4 HE4 HB4
            go_wp2_with fail
            refine (HA.out.wr _).mono ?_
            rintro e w6 ⟨rfl, hb⟩
            have HB6 : Hid (Below w2.heap.size w2 w6) := HB5.out.trans (hb.mono HB5.out.size)
            have HE6 : Hid (Env w6 eb) := HE5.out.below hb HE5.out.g
            have hcv6 := HCV.out w6 HB6.out
            clear hb hcv5 HE5 HB5
            go_wp2_with fail
            refine (HA.out.u5 _ HE6.out).mono ?_
            rintro e w7 ⟨rfl, hb⟩
            have HB7 : Hid (Below w2.heap.size w2 w7) := HB6.out.trans (hb.mono HB6.out.size)
            have HE7 : Hid (Env w7 eb) := HE6.out.below hb HE6.out.g
            have hcv7 := HCV.out w7 HB7.out
            clear hb hcv6 HE6 HB6
            go_wp2_with fail
            refine (HA.out.wr _).mono ?_
            rintro e w8 ⟨rfl, hb⟩
            have HB8 : Hid (Below w2.heap.size w2 w8) := HB7.out.trans (hb.mono HB7.out.size)
            have HE8 : Hid (Env w8 eb) := HE7.out.below hb HE7.out.g
            have hcv8 := HCV.out w8 HB8.out
            clear hb hcv7 HE7 HB7
            go_wp2_with fail
            refine (HA.out.u6 _ (by omega) _ HE8.out).mono ?_
            rintro e w9 ⟨rfl, hb⟩
            have HB9 : Hid (Below w2.heap.size w2 w9) := HB8.out.trans (hb.mono HB8.out.size)
            have HE9 : Hid (Env w9 eb) := HE8.out.below hb HE8.out.g
            have hcv9 := HCV.out w9 HB9.out
            clear hb hcv8 HE8 HB8
            go_wp2_with fail
            go_ret
            exact ⟨rfl, HL2.out.below.trans (HB9.out.mono HL2.out.below.size)⟩
          · go_wp2_with fail
            refine (HA.out.wr _).mono ?_
            rintro e w5 ⟨rfl, hb⟩
            have HB5 : Hid (Below w2.heap.size w2 w5) := HB4.out.trans (hb.mono HB4.out.size)
            have HE5 : Hid (Env w5 eb) := HE4.out.below hb HE4.out.g
            have hcv5 := HCV.out w5 HB5.out
            clear hb hcv4 HE4 HB4
            go_wp2_with fail
            refine (HA.out.u5 _ HE5.out).mono ?_
            rintro e w6 ⟨rfl, hb⟩
            have HB6 : Hid (Below w2.heap.size w2 w6) := HB5.out.trans (hb.mono HB5.out.size)
            have HE6 : Hid (Env w6 eb) := HE5.out.below hb HE5.out.g
            have hcv6 := HCV.out w6 HB6.out
            clear hb hcv5 HE5 HB5
            go_wp2_with fail
            refine (HA.out.wr _).mono ?_
            rintro e w7 ⟨rfl, hb⟩
            have HB7 : Hid (Below w2.heap.size w2 w7) := HB6.out.trans (hb.mono HB6.out.size)
            have HE7 : Hid (Env w7 eb) := HE6.out.below hb HE6.out.g
            have hcv7 := HCV.out w7 HB7.out
            clear hb hcv6 HE6 HB6
            go_wp2_with fail
            refine (HA.out.u6 _ (by omega) _ HE7.out).mono ?_
            rintro e w8 ⟨rfl, hb⟩
            have HB8 : Hid (Below w2.heap.size w2 w8) := HB7.out.trans (hb.mono HB7.out.size)
            have HE8 : Hid (Env w8 eb) := HE7.out.below hb HE7.out.g
            have hcv8 := HCV.out w8 HB8.out
            clear hb hcv7 HE7 HB7
            go_wp2_with fail
            go_ret
            exact ⟨rfl, HL2.out.below.trans (HB8.out.mono HL2.out.below.size)⟩
    -- ROUND BEGIN
    obtain ⟨la', cap', e0, _, hc⟩ := TokAt.below (show TokAt w (.slice la n cap) n from HT.out) hL.below
    obtain ⟨a, x, y, z, e1, _, c0, c1, c2, x1, x2, y1, y2, z1, z2⟩ := hc i hlt.1
    obtain ⟨rfl, rfl⟩ : la' = la ∧ cap' = cap := by injection e0 with e1 _ e3; exact ⟨e1.symm, e3.symm⟩
    subst e1
    clear hc e0
    obtain ⟨far, hfar, hpf⟩ := pick_nat z 32769 z1 z2 (by omega) (by omega)
    obtain ⟨b, hpb⟩ := pick_byte x x1 x2
    obtain ⟨nn, hnn, hpn⟩ := pick_nat y 256 y1 y2 (by omega) (by omega)
    obtain ⟨hlt1, hlt2⟩ := hlt
    have d400 : decide ((i : Int) < 400) = true := decide_eq_true (by omega)
    obtain ⟨ao, ocap, hov⟩ := hL.lens
    subst hov
    have HPF : Hid _ := hpf
    have HPB : Hid _ := hpb
    have HPN : Hid _ := hpn
    clear hpf hpb hpn
    have k0 : wr.cell? ⟨(a.add (i * 3)).block, (a.add (i * 3)).off, none⟩ = some (.int .i64 x) := (by have e := World.cell?_spot c0; rw [← e]; exact c0)
    have k1 : wr.cell? ⟨(a.add (i * 3)).block, (a.add (i * 3)).off + 1, none⟩ = some (.int .i64 y) := c1
    have k2 : wr.cell? ⟨(a.add (i * 3)).block, (a.add (i * 3)).off + 2, none⟩ = some (.int .i64 z) := c2
    clear c1 c2
    have HWR : Hid _ := hWr
    have HL : Hid _ := hL
    clear hWr hL
    clear x1 x2 y1 y2 z1 z2
    have HBL : Hid _ := hBl
    have HOL : Hid _ := hol
    have HMO : Hid _ := hmo
    clear hBl hol hmo
    have HFA : Hid _ := hfar
    have HNN : Hid _ := hnn
    clear hfar hnn
    go_wp2_with fail
    refine (HPF.out _).mono ?_
    rintro e wz ⟨rfl, hwz⟩
    have hwz := hwz.symm
    subst hwz
    clear HPF k2
    have hb255 : b.toNat ≤ 255 := by have := b.toNat_lt; omega
    have hol7 : out.length ≤ 1000000 := by have := HOL.out; omega
    have hol8 : out.length ≤ 100000000 := by omega
    have hbs : w.heap.size ≤ wr.heap.size := HL.out.below.size
    have hll := litB_len b.toNat
    have hlb := (litC_bd b.toNat (by omega)).2.1
    have HBL2 : Hid (B.length ≤ 16003) := (by have := HBL.out; omega : _ ≤ _)
    have HLL : Hid (B.length + (litB b.toNat).length ≤ 3 + 40 * (i + 1) ∧ out.length + 1 ≤ 258 * (i + 1)) := (⟨by have := HBL.out; omega, by have := HOL.out; omega⟩ : _ ∧ _)
    clear hll hlb
    by_cases hA : far = 0 ∨ out.length = 0
    · have hcs : (far = 0) ∨ (0 < far ∧ out.length = 0) := by omega
      clear hA HPN
      have hlit := literal_any w.heap.size w.heap.size rv B b.toNat wr HL.out.wr (by omega) (by have := HBL2.out; omega)
      rcases hcs with hf0 | ⟨hf0, ho0⟩
      · subst hf0
        go_wp2_with fail
        refine (HPB.out _).mono ?_
        rintro e wz ⟨rfl, hwz⟩
        have hwz := hwz.symm
        subst hwz
        clear HPB k0
        go_wp2_with fail
        refine hlit.mono ?_
        clear hlit
        rintro e w2 ⟨rfl, rv2, q1, q2, q3⟩
        have hL2 := HL.out.write q1 q2 q3
        clear q1 q2 q3
        have hown2 := hL2.own
        have hbs2 : w.heap.size ≤ w2.heap.size := hL2.below.size
        go_wp2_with (first
          | (at_builtin; refine append_byte2 rfl _ _ rfl w.heap.size _ out.length (byteCells out) ((b.toNat : Nat) : Int) hown2 rfl rfl hol8 hbs2 ?_; go_must (intro v' w3 hown' hg hw))
          | go_in)
        go_roundw
        case rel => exact ⟨i + 1, most, rv2, _, _, by omega, by omega, by go_num, rfl, hL2.push rfl hown' hg hw, .lit b HWR.out, HMO.out, by rw [List.length_append]; exact HLL.out.1, by rw [List.length_append]; exact HLL.out.2⟩
        case measure => simp [intOf]; omega
      · have dq : ((far : Int) == 0) = false := by rw [beq_eq_false_iff_ne]; omega
        have dq2 : ((out.length : Int) == 0) = true := by rw [beq_iff_eq]; omega
        clear ho0
        go_wp2_with fail
        refine (HPB.out _).mono ?_
        rintro e wz ⟨rfl, hwz⟩
        have hwz := hwz.symm
        subst hwz
        clear HPB k0
        go_wp2_with fail
        refine hlit.mono ?_
        clear hlit
        rintro e w2 ⟨rfl, rv2, q1, q2, q3⟩
        have hL2 := HL.out.write q1 q2 q3
        clear q1 q2 q3
        have hown2 := hL2.own
        have hbs2 : w.heap.size ≤ w2.heap.size := hL2.below.size
        go_wp2_with (first
          | (at_builtin; refine append_byte2 rfl _ _ rfl w.heap.size _ out.length (byteCells out) ((b.toNat : Nat) : Int) hown2 rfl rfl hol8 hbs2 ?_; go_must (intro v' w3 hown' hg hw))
          | go_in)
        go_roundw
        case rel => exact ⟨i + 1, most, rv2, _, _, by omega, by omega, by go_num, rfl, hL2.push rfl hown' hg hw, .lit b HWR.out, HMO.out, by rw [List.length_append]; exact HLL.out.1, by rw [List.length_append]; exact HLL.out.2⟩
        case measure => simp [intOf]; omega
    have hA1 : 0 < far := by omega
    have hA2 : 0 < out.length := by omega
    have dq1 : ((far : Int) == 0) = false := by rw [beq_eq_false_iff_ne]; omega
    have dq2 : ((out.length : Int) == 0) = false := by rw [beq_eq_false_iff_ne]; omega
    have hnn2 : nn ≤ 255 := by have := HNN.out; omega
    have hfa2 : far ≤ 32768 := by have := HFA.out; omega
    clear hA HPB k0 HLL hb255
    by_cases hgt : out.length < far
    all_goals
      obtain ⟨fr, hfe, hfr1, hfr2, hfr3⟩ : ∃ fr : Nat, (out.length < far → 1 + (far : Int) % (out.length : Int) = (fr : Int)) ∧ 1 ≤ fr ∧ fr ≤ out.length ∧ (¬ out.length < far → fr = far) := by
        by_cases hq : out.length < far
        · refine ⟨1 + far % out.length, fun _ => by simp, by omega, by have := Nat.mod_lt far hA2; omega, fun h => absurd hq h⟩
        · exact ⟨far, fun h => absurd h hq, hA1, by omega, fun _ => rfl⟩
      first
        | (have hfe := hfe hgt; clear hfr3)
        | (have hfr3 := hfr3 hgt; subst hfr3; clear hfe)
      obtain ⟨N, hN0⟩ : ∃ N, N = 3 + nn := ⟨_, rfl⟩
      have hN : 3 + (nn : Int) = (N : Int) := by omega
      have hN1 : 3 ≤ N := by omega
      have hN2 : N ≤ 258 := by omega
      clear hN0
      have hag := againW_any w.heap.size w.heap.size rv B N fr wr HL.out.wr (by omega) (by omega) hfr1 (by omega) (by have := HBL2.out; omega)
      go_wp2_with fail
      refine (HPN.out _).mono ?_
      rintro e wz ⟨rfl, hwz⟩
      have hwz := hwz.symm
      subst hwz
      clear HPN k1
      go_wp2_with fail
      refine hag.mono ?_
      clear hag
      rintro e w2 ⟨y, d, hy, hd, rfl, rv2, q1, q2, q3⟩
      have hL2 := HL.out.write q1 q2 q3
      have HWR2 : Hid (Wrote (B ++ matB N fr y d) (cpO fr N out) (max most fr)) := Wrote.mat N fr y d HWR.out hfr1 hfr2 hy hd
      have hBl2 : (B ++ matB N fr y d).length ≤ 3 + 40 * (i + 1) := by rw [List.length_append]; have := matB_le N fr y d hy hd; have := HBL.out; omega
      have HBL3 : Hid _ := hBl2
      have HOL3 : Hid ((cpO fr N out).length ≤ 258 * (i + 1)) := (by rw [cpO_len]; have := HOL.out; omega : _ ≤ _)
      clear q1 q2 q3 hy hd hBl2 HBL2 HBL HL HWR HFA HNN hbs
      generalize B ++ matB N fr y d = B2 at *
      by_cases hmm : most < fr
      all_goals
        obtain ⟨mo2, hmo2, hmo3⟩ : ∃ mo2, mo2 = max most fr ∧ mo2 ≤ 32768 := ⟨_, rfl, by have := HMO.out; omega⟩
        rw [← hmo2] at HWR2
        have HMO2 : Hid (mo2 ≤ 32768) := hmo3
        first
          | (have hmm2 : fr = mo2 := by omega)
          | (have hmm2 : most = mo2 := by omega)
        clear hmo2 hmo3
        subst hmm2
        go_wp2_with fail
        go_loopw [6, 12] (fun ov kv wx => ∃ (k : Nat) (v : Value), k ≤ N ∧ kv = .int .i64 (k : Int) ∧ v = ov ∧ LoopAt w wx w.heap.size rv2 v B2 (cpO fr k out)) (fun _ kv _ => N - (intOf kv).toNat)
        case atStart => exact ⟨0, _, Nat.zero_le _, rfl, rfl, hL2⟩
        case round =>
          clear hL2
          obtain ⟨k, ov, hk, rfl, rfl, hL3⟩ := hrel
          have hOl := cpO_len fr k out
          have HSN : Hid _ := cpO_snoc fr k out
          by_cases hkn : k < N
          · have hol9 : (cpO fr k out).length ≤ 100000000 := by omega
            have hO1 : 0 < (cpO fr k out).length := by omega
            have hOf : fr ≤ (cpO fr k out).length := by omega
            clear hOl
            generalize cpO fr k out = O at *
            obtain ⟨J, hJ0⟩ : ∃ J, J = O.length - fr := ⟨_, rfl⟩
            have hJ : (O.length : Int) - (fr : Int) = (J : Int) := by omega
            have hJ2 : J < O.length := by omega
            rw [← hJ0] at HSN
            have hown3 := hL3.own
            have hbs3 : w.heap.size ≤ wr.heap.size := hL3.below.size
            obtain ⟨g, gcap, rfl⟩ : ∃ g gcap, ov = .slice (some ⟨g, 0, none⟩) O.length gcap := by
              rcases hown3.2 with ⟨_, h0⟩ | ⟨g, gcap, _, hv, _⟩
              · omega
              · exact ⟨g, gcap, hv⟩
            have hcj : wr.cell? ⟨g, J, none⟩ = some (.int .u8 (((O.getD J 0).toNat : Nat) : Int)) := (hown3.cellAt J (by omega)).trans (byteCells_at O J hJ2)
            have hz255 : (O.getD J 0).toNat ≤ 255 := by have := (O.getD J 0).toNat_lt; omega
            clear hJ0
            generalize O.getD J 0 = Z at *
            have HL3 : Hid _ := hL3
            clear hL3
            go_wp2_with (first
              | (at_builtin; refine append_byte2 rfl _ _ rfl w.heap.size _ O.length (byteCells O) ((Z.toNat : Nat) : Int) hown3 rfl rfl hol9 hbs3 ?_; go_must (intro v' w4 hown' hg hw))
              | go_in)
            go_roundw
            case rel => exact ⟨k + 1, v', by omega, by go_num, rfl, by rw [HSN.out]; exact HL3.out.push rfl hown' hg hw⟩
            case measure => simp [intOf]; omega
          · have hkN : k = N := by omega
            subst hkN
            clear hOl HSN
            go_wp2_with fail
            go_roundw
            case rel => exact ⟨i + 1, _, rv2, B2, _, by omega, by omega, by go_num, rfl, hL3, HWR2.out, HMO2.out, HBL3.out, HOL3.out⟩
            case measure => simp [intOf]; omega
    -- ROUND END
end Go.Proofs.YtephkcdbnogdhaaGreatDoor.Pr
/- A row of tokens that came in: its cells. -/
namespace Go.Proofs.YtephkcdbnogdhaaGreatDoor.packed
open Go.ChangeShapes Go.WideShapes Go.ChangeAt Go.RowKit
set_option linter.unusedVariables false
theorem cells3 : Tryz.prog.cellsOf 51 = 3 := by kernel_rfl
theorem cells1 : Tryz.prog.cellsOf 3 = 1 := by kernel_rfl
set_option maxRecDepth 100000 in
theorem tok_of {H : Type} {enc : TypeId × Value → H} {W : World} {base : Nat} {v : Value} {d : DataW H} {ps : List MemPlace} (hval : Value.okWide Tryz.prog W .any base 43 v) (hd : DataW.Trod enc Tryz.prog W 0 (fun _ => true) true 43 v d ps) : ∃ n, Pr.TokAt W v n := by
  obtain ⟨la, n, cap, rfl⟩ := okWide_slice Tryz.underlying43 hval
  obtain ⟨fuel, hf⟩ := hd
  have hf' : DataW.trod enc Tryz.prog W 0 (fun _ => true) true fuel 43 [.slice la n cap] = some (d, ps) := hf
  rcases DataW.trod_slice Tryz.underlying43 hf' with ⟨h0, _⟩ | ⟨a, len, cap', elems, rest, m, _, hcs, _, _, hl, hm, hlen, hel, _, _⟩
  · injection h0 with h0 _
    injection h0 with e1 e2 e3
    subst e1; subst e2; subst e3
    exact ⟨0, none, 0, rfl, Nat.zero_le _, fun i hi => absurd hi (Nat.not_lt_zero _)⟩
  · injection hcs with hcs _
    injection hcs with e1 e2 e3
    subst e1; subst e2; subst e3
    refine ⟨n, some a, cap, rfl, Nat.le_trans hl hm, fun i hi => ?_⟩
    have hE := hel i hi
    obtain ⟨y, hy⟩ : ∃ y, elems[i]? = some y := ⟨_, List.getElem?_eq_getElem (by omega)⟩
    rw [hy, cells3, Option.bind_eq_some_iff] at hE
    obtain ⟨cs', h1, h2⟩ := hE
    obtain ⟨_, hl3, hcell⟩ := World.cells?_some h1
    obtain ⟨xs, k, _, _, _, hxl, hfl⟩ := DataW.trod_struct Tryz.underlying51 h2
    match xs, hxl, cs', hl3 with
    | [y0, y1, y2], _, [v0, v1, v2], _ =>
      have g0 := hfl 0 _ rfl
      have g1 := hfl 1 _ rfl
      have g2 := hfl 2 _ rfl
      simp [cells1] at g0 g1 g2
      obtain ⟨x, q0, _, w0⟩ := DataW.trod_int Tryz.underlying3 g0
      obtain ⟨y', q1, _, w1⟩ := DataW.trod_int Tryz.underlying3 g1
      obtain ⟨z, q2, _, w2⟩ := DataW.trod_int Tryz.underlying3 g2
      injection q0 with q0 _
      injection q1 with q1 _
      injection q2 with q2 _
      subst q0; subst q1; subst q2
      have b0 := bounds_i64 w0
      have b1 := bounds_i64 w1
      have b2 := bounds_i64 w2
      have e0 := hcell 0 (by omega)
      have e1 := hcell 1 (by omega)
      have e2 := hcell 2 (by omega)
      have e0' : W.cell? (a.add (i * 3)) = some (.int .i64 x) := by simpa [Addr.add] using e0
      have hbk : a.block < W.heap.size := by
        have := Er.cell_lt e0'
        have ab : (a.add (i * 3)).block = a.block := by unfold Addr.add; split <;> rfl
        rwa [ab] at this
      exact ⟨a, x, y', z, rfl, hbk, e0', by simpa using e1, by simpa using e2, b0.1, b0.2, b1.1, b1.2, b2.1, b2.2⟩

end Go.Proofs.YtephkcdbnogdhaaGreatDoor.packed
