/- Proved: at all texts b and other, every limit and every script that can be read, vellumlaw.Decodes returns true and leaves them as they were: of a source that does not fail, however few bytes come at a time, vellum.Decode answers as the document's Decode does, image for image and error for error; what is done with an image that came out changes no other one, and the script is not written. Its condition: the package-level variables running.crcOfNibble, errors.errorType, fault.End, fault.Failed, fault.TooLarge, rows.small and unpack.lengthOrder read as the program's own text lays them (the card ties them to that text; that nothing else writes them is the translator's report). -/
import Derived.Carry
import Derived.ChangeOld
import Derived.SevenTiedAt
import Derived.ShutString
import Derived.Test.YtephkcdbnogdhaaGreatDoorCards
import Derived.Test.YtephkcdbnogdhaaGreatDoorTie
import Derived.Test.YtephkcdbnogdhaaGreatDoorLa
set_option linter.unusedVariables false
set_option maxHeartbeats 40000000
set_option maxRecDepth 10000
namespace Go.Proofs.YtephkcdbnogdhaaGreatDoor
open Go.Proofs.Tryz
open Go renaming Value->ay,TypeId->aY
namespace decodes
open Go.ChangeShapes Go.WideShapes Go.ChangeAt Go.RowKit
open Go.ChangeMaps (open_string shut_string)
set_option maxRecDepth 100000 in
theorem lifted(os:Os)(started:os.Started)(H:Type)(enc:aY×ay->H):
 ReturnsInHanded {} checked os 5 .any (fun w args=>(Rows.decodesSpec.pre enc prog f5 [] false w args/\laidMetH prog yh w)/\sizedMet enc prog f5 (OpenSpec.ofChange Rows.decodesSpec) false w args)
  (Rows.decodesSpec.post enc prog f5 false true false false):=by
 refine returnsInHanded_of_change_and (C:=checked) (X:=fun w _=>laidMetH prog yh w) (fun _ _ _ J h=>h.of_heap J) own started (by kernel_rfl) func5
  (ChangeSpec.witness_shaped (enc:=enc) (C:=checked) (os:=os) (X:=fun w _=>laidMetH prog yh w) false (World.doorLaid prog 95 os) #[.string ByteArray.empty,.int .i64 0,.slice none 0 0,.string ByteArray.empty] 8 rfl (World.shaped_of_RefB (by kernel_rfl) (by kernel_rfl)) (by kernel_rfl) (by kernel_rfl) (by kernel_rfl) (LK os _)) ?_
 intro W base args ds gs before b hW _ f K _;have a:∀(j:Nat) t v,f5.params[j]?=some t->args[j]?=some v->Value.okWide prog W .any base t v:=b;have c:(DataW.weightsEach prog (f5.params.toList++Rows.decodesSpec.plain.varTypes prog) (ds++gs)).all (· <=reachBytes)=true:=f;have s:=hW;obtain⟨p,q,g,M,rfl,N,O⟩:=hW;have G:DataW.TrodAll enc prog W 0 (fun _=>true) true f5.params.toList args.toList ds p:=g;rw[params5]at G a c;obtain⟨v0,P,d0,Q,p0,q0,u,rfl,rfl,R,S⟩:=trodAll_cons G;obtain⟨v1,T,d1,U,p1,q1,rfl,rfl,rfl,y,V⟩:=trodAll_cons S;obtain⟨v2,Y,d2,Z,p2,q2,rfl,rfl,rfl,k,r2⟩:=trodAll_cons V;obtain⟨I,a2,d3,a4,p3,q3,rfl,rfl,rfl,h3,r3⟩:=trodAll_cons r2;obtain⟨rfl,rfl,rfl⟩:=trodAll_nil r3;obtain rfl:args= #[v0,v1,v2,I]:=by cases args;simp_all
 obtain⟨rfl,rfl⟩:=trodVars_none M;obtain⟨z,rfl,rfl,rfl,w0⟩:=open_string underlying9 (a 0 9 v0 rfl rfl) R;obtain⟨a1,rfl,rfl,rfl,w1⟩:=open_int underlying3 (a 1 3 v1 rfl rfl) y;have l:∀x∈p2,x.block<W.heap.size:=by obtain⟨fl,A⟩:=k;exact DataW.trod_lt _ _ _ _ A
 obtain⟨la,n,cap,L,rfl,m,d,o⟩:=WE (a 2 29 v2 rfl rfl) k;obtain⟨B,rfl,rfl,rfl,w3⟩:=open_string underlying9 (a 3 9 I rfl rfl) h3;have D:z.size<=140737488351232:=by have:=sized_string c (j:=0) (t:=9) (bytes:=z.data.toList) rfl rfl;simpa [reachBytes]using this
 have E:B.size<=140737488351232:=by have:=sized_string c (j:=3) (t:=9) (bytes:=B.data.toList) rfl rfl;simpa [reachBytes]using this
 have hn:n<=17592186043904:=(by
  rcases o with h|⟨el,sp,rfl,F⟩
  ·omega
  ·have y:=sized_slice c (j:=2) (t:=29) (e:=3) (elems:=el) (spare:=sp) rfl rfl underlying29;have k:prog.bytesOf 3=8:=by kernel_rfl
   rw[k,F]at y;have h3:reachBytes=140737488351232:=rfl;omega)
 obtain⟨eb,fb,lb,hD⟩:=Dh K;clear g b;refine(Pr.Oh z B a1 la n cap L W eb fb lb hD m ⟨la,cap,by rw[m],by omega,fun i hi=>d i (by omega)⟩ D E (by omega)).mono fun e W' ⟨he,r⟩=> ?_;subst he;exact⟨_,rfl,_,_,_,[],_,[],s,trodAll_mk1 (shut_bool underlying4 _),(trodAll_cons_mk (shut_string underlying9 w0) (trodAll_cons_mk (shut_int underlying3 w1) (trodAll_cons_mk (Below.trod (by kernel_rfl) (by kernel_rfl) (nS (by kernel_rfl)) k r l) (trodAll_cons_mk (shut_string underlying9 w3) trodAll_mk0)))),rfl,r.frame _,fun h=>by cases h⟩
theorem Ef:Rows.DecodesSaid:=
 OpenClaim.holds_of_wide 5 f5 rfl rfl rfl rfl rfl rfl rfl ⟨rfl,rfl,rfl,rfl,rfl⟩ rfl rfl rfl rfl rfl (by kernel_rfl) func5 (by kernel_rfl)
  (nS (by kernel_rfl)) (by unfold Func.isWrapper;first|(rw[aC (by decide+kernel)];kernel_rfl)|(rw[au (by decide+kernel)];exact⟨rfl,rfl⟩))
  (fun os started H enc _=>lifted os started H enc)
end decodes
open Go
theorem decodes_card:Rows.DecodesCardSaid:=
 Claim7.holds_tied_plain_at .later [] [.data,.handle,.sentinel,.sentinel,.sentinel,.data,.data] true (true,"2e3f9270758ae21e698f49797578a958a6831d537dbc3c8810530139e0af1668") true
  decodes.Ef (fun _ h=>by cases h) (by kernel_rfl) (fun _ h=>by cases h) decodes_row_tie rfl ⟨rfl,rfl⟩ (by kernel_rfl) rfl
  (fun f fn d b=>by
    obtain rfl:f=5:=dB ((show prog.funcNamed "vellum/vellumlaw.Decodes" =some 5 by kernel_rfl).symm.trans d)|>.symm;obtain rfl:fn=f5:=(dB (func5.symm.trans b)).symm;exact⟨by kernel_rfl,fun j t c=>by
     rw[params5]at c;have hm:t∈[9,3,29,9]:=by simpa using Array.mem_of_getElem? c
     have a:([9,3,29,9].all fun u=> !prog.wantsStandIn u)=true:=by kernel_rfl
     exact(show prog.wantsStandIn t=false by simpa using List.all_eq_true.1 a t hm)⟩)
  (by kernel_rfl)
#print axioms decodes_card
end Go.Proofs.YtephkcdbnogdhaaGreatDoor
