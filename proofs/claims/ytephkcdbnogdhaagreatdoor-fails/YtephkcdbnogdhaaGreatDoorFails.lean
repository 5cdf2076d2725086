/- Proved: at every text b, every limit and every script that can be read, vellumlaw.Fails returns true and leaves them as they were: of a source that may fail, vellum.Decode answers ErrSource only where the script fails ahead of the last byte and the limit may be, with no image, and else answers as the document's Decode does, image for image and error for error; an image only where the script gives every byte of b, too large only where it gives 33, and nothing but the limit's error where it gives none. Its condition: the package-level variables running.crcOfNibble, errors.errorType, fault.End, fault.Failed, fault.TooLarge, rows.small and unpack.lengthOrder read as the program's own text lays them (the card ties them to that text; that nothing else writes them is the translator's report). -/
import Derived.Carry
import Derived.ChangeOld
import Derived.SevenTiedAt
import Derived.ShutString
import Derived.Test.YtephkcdbnogdhaaGreatDoorCards
import Derived.Test.YtephkcdbnogdhaaGreatDoorTie
import Derived.Test.YtephkcdbnogdhaaGreatDoorFl
set_option linter.unusedVariables false
set_option maxHeartbeats 40000000
set_option maxRecDepth 10000
namespace Go.Proofs.YtephkcdbnogdhaaGreatDoor
open Go.Proofs.Tryz
open Go renaming Value->ay,TypeId->aY
namespace fails
open Go.ChangeShapes Go.WideShapes Go.ChangeAt Go.RowKit
open Go.ChangeMaps (open_string shut_string)
set_option maxRecDepth 100000 in
theorem lifted(os:Os)(started:os.Started)(H:Type)(enc:aY×ay->H):
 ReturnsInHanded {} checked os 6 .any (fun w args=>(Rows.failsSpec.pre enc prog f6 [] false w args/\laidMetH prog yh w)/\sizedMet enc prog f6 (OpenSpec.ofChange Rows.failsSpec) false w args)
  (Rows.failsSpec.post enc prog f6 false true false false):=by
 refine returnsInHanded_of_change_and (C:=checked) (X:=fun w _=>laidMetH prog yh w) (fun _ _ _ F h=>h.of_heap F) own started (by kernel_rfl) func6
  (ChangeSpec.witness_shaped (enc:=enc) (C:=checked) (os:=os) (X:=fun w _=>laidMetH prog yh w) false (World.doorLaid prog 95 os) #[.string ByteArray.empty,.int .i64 0,.slice none 0 0] 8 rfl (World.shaped_of_RefB (by kernel_rfl) (by kernel_rfl)) (by kernel_rfl) (by kernel_rfl) (by kernel_rfl) (LK os _)) ?_
 intro W base args ds gs before b hW _ f G _;have a:∀(j:Nat) t v,f6.params[j]?=some t->args[j]?=some v->Value.okWide prog W .any base t v:=b;have d:(DataW.weightsEach prog (f6.params.toList++Rows.failsSpec.plain.varTypes prog) (ds++gs)).all (· <=reachBytes)=true:=f;have s:=hW;obtain⟨p,q,g,I,rfl,J,K⟩:=hW;have E:DataW.TrodAll enc prog W 0 (fun _=>true) true f6.params.toList args.toList ds p:=g;rw[params6]at E a d;obtain⟨v0,M,d0,N,p0,q0,u,rfl,rfl,O,P⟩:=trodAll_cons E;obtain⟨v1,Q,d1,R,p1,q1,rfl,rfl,rfl,y,S⟩:=trodAll_cons P;obtain⟨v2,T,d2,U,V,q2,rfl,rfl,rfl,k,Y⟩:=trodAll_cons S;obtain⟨rfl,rfl,rfl⟩:=trodAll_nil Y;obtain rfl:args= #[v0,v1,v2]:=by cases args;simp_all
 obtain⟨rfl,rfl⟩:=trodVars_none I;obtain⟨z,rfl,rfl,rfl,w0⟩:=open_string underlying9 (a 0 9 v0 rfl rfl) O;obtain⟨Z,rfl,rfl,rfl,w1⟩:=open_int underlying3 (a 1 3 v1 rfl rfl) y;have l:∀x∈V,x.block<W.heap.size:=by obtain⟨fl,A⟩:=k;exact DataW.trod_lt _ _ _ _ A
 obtain⟨la,n,cap,L,rfl,m,c,o⟩:=WE (a 2 29 v2 rfl rfl) k;have B:z.size<=140737488351232:=by have:=sized_string d (j:=0) (t:=9) (bytes:=z.data.toList) rfl rfl;simpa [reachBytes]using this
 have hn:n<=17592186043904:=(by
  rcases o with h|⟨el,sp,rfl,D⟩
  ·omega
  ·have y:=sized_slice d (j:=2) (t:=29) (e:=3) (elems:=el) (spare:=sp) rfl rfl underlying29;have k:prog.bytesOf 3=8:=by kernel_rfl
   rw[k,D]at y;have h3:reachBytes=140737488351232:=rfl;omega)
 obtain⟨eb,fb,lb,hD⟩:=Dh G;clear g b;refine(Pr.Vj z Z la n cap L W eb fb lb hD m ⟨la,cap,by rw[m],by omega,fun i hi=>c i (by omega)⟩ B (by omega)).mono fun e W' ⟨he,r⟩=> ?_;subst he;exact⟨_,rfl,_,_,_,[],_,[],s,trodAll_mk1 (shut_bool underlying4 _),(trodAll_cons_mk (shut_string underlying9 w0) (trodAll_cons_mk (shut_int underlying3 w1) (trodAll_cons_mk (Below.trod (by kernel_rfl) (by kernel_rfl) (nS (by kernel_rfl)) k r l) trodAll_mk0))),rfl,r.frame _,fun h=>by cases h⟩
theorem Ef:Rows.FailsSaid:=
 OpenClaim.holds_of_wide 6 f6 rfl rfl rfl rfl rfl rfl rfl ⟨rfl,rfl,rfl,rfl,rfl⟩ rfl rfl rfl rfl rfl (by kernel_rfl) func6 (by kernel_rfl)
  (nS (by kernel_rfl)) (by unfold Func.isWrapper;first|(rw[aC (by decide+kernel)];kernel_rfl)|(rw[au (by decide+kernel)];exact⟨rfl,rfl⟩))
  (fun os started H enc _=>lifted os started H enc)
end fails
open Go
theorem fails_card:Rows.FailsCardSaid:=
 Claim7.holds_tied_plain_at .later [] [.data,.handle,.sentinel,.sentinel,.sentinel,.data,.data] true (true,"2e3f9270758ae21e698f49797578a958a6831d537dbc3c8810530139e0af1668") true
  fails.Ef (fun _ h=>by cases h) (by kernel_rfl) (fun _ h=>by cases h) fails_row_tie rfl ⟨rfl,rfl⟩ (by kernel_rfl) rfl
  (fun f fn d b=>by
    obtain rfl:f=6:=dB ((show prog.funcNamed "vellum/vellumlaw.Fails" =some 6 by kernel_rfl).symm.trans d)|>.symm;obtain rfl:fn=f6:=(dB (func6.symm.trans b)).symm;exact⟨by kernel_rfl,fun j t c=>by
     rw[params6]at c;have hm:t∈[9,3,29]:=by simpa using Array.mem_of_getElem? c
     have a:([9,3,29].all fun u=> !prog.wantsStandIn u)=true:=by kernel_rfl
     exact(show prog.wantsStandIn t=false by simpa using List.all_eq_true.1 a t hm)⟩)
  (by kernel_rfl)
#print axioms fails_card
end Go.Proofs.YtephkcdbnogdhaaGreatDoor
