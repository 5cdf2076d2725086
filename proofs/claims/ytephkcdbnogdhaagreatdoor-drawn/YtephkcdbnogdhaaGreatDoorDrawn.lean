/- Proved: at every plan of a picture that can be read, vellumkeep.Drawn returns true and leaves it as it was: a picture of any size up to 20 times 20, of every kind and depth, interlaced or not, with any filters, its packed bytes stored in any blocks and parted into any IDATs, comes out of vellum.Decode pixel for pixel, also with just so many pixels for a limit; with one pixel fewer it is too large. Its condition: the package-level variables running.crcOfNibble, errors.errorType, fault.End, fault.Failed, fault.TooLarge, rows.small and unpack.lengthOrder read as the program's own text lays them (the card ties them to that text; that nothing else writes them is the translator's report). -/
import Derived.Test.YtephkcdbnogdhaaGreatDoorCards
import Derived.Test.YtephkcdbnogdhaaGreatDoorTie
import Derived.Test.YtephkcdbnogdhaaGreatDoorM35
set_option linter.unusedVariables false
set_option maxHeartbeats 40000000
set_option maxRecDepth 10000
namespace Go.Proofs.YtephkcdbnogdhaaGreatDoor
open Go.Proofs.Tryz
open Go renaming Value->ay,TypeId->aW
namespace drawn
open Go.ChangeShapes Go.WideShapes Go.ChangeAt Go.RowKit
open Go.ChangeMaps (open_string shut_string)
set_option maxRecDepth 100000 in
theorem lifted(os:Os)(started:os.Started)(H:Type)(enc:aW×ay->H):
 ReturnsInHanded {} checked os 8 .any (fun w args=>(Rows.drawnSpec.pre enc prog f8 [] false w args/\laidMetH prog BM w)/\sizedMet enc prog f8 (OpenSpec.ofChange Rows.drawnSpec) false w args)
  (Rows.drawnSpec.post enc prog f8 false true false false):=by
 refine returnsInHanded_of_change_and (C:=checked) (X:=fun w _=>laidMetH prog BM w) (fun _ _ _ G h=>h.of_heap G) own started (by kernel_rfl) func8
  (ChangeSpec.witness_shaped (enc:=enc) (C:=checked) (os:=os) (X:=fun w _=>laidMetH prog BM w) false (World.doorLaid prog 95 os) #[.agg #[.int .i64 0,.int .i64 0,.int .i64 0,.bool false,.slice none 0 0,.bool false,.slice none 0 0,.slice none 0 0,.slice none 0 0,.int .i64 0]] 8 rfl (World.shaped_of_RefB (by kernel_rfl) (by kernel_rfl)) (by kernel_rfl) (by kernel_rfl) (by kernel_rfl) (WE os _)) ?_
 intro W base args ds gs before d hW _ g J _;have f:∀(j:Nat) t v,f8.params[j]?=some t->args[j]?=some v->Value.okWide prog W .any base t v:=d;have i:(DataW.weightsEach prog (f8.params.toList++Rows.drawnSpec.plain.varTypes prog) (ds++gs)).all (· <=reachBytes)=true:=g;have r:=hW;obtain⟨p,q,l,K,rfl,L,M⟩:=hW;have y:DataW.TrodAll enc prog W 0 (fun _=>true) true f8.params.toList args.toList ds p:=l;rw[params8]at y f i;obtain⟨v0,N,d0,O,Q,q0,s,rfl,rfl,h0,R⟩:=trodAll_cons y;obtain⟨rfl,rfl,rfl⟩:=trodAll_nil R;obtain rfl:args= #[v0]:=by cases args;simp_all
 obtain⟨rfl,rfl⟩:=trodVars_none K;have m:∀x∈Q,x.block<W.heap.size:=by obtain⟨fl,u⟩:=h0;exact DataW.trod_lt _ _ _ _ u
 obtain⟨a,b,c,z,I,T,ev,A,fv,pv,E,S,F,P,rfl,B,hS,hF,D,U,hb,V,Y⟩:=acg (f 0 56 v0 rfl rfl) h0 (fun n Z=>lW (List.all_eq_true.1 i n (DataW.weights_mem_each (j:=0) rfl rfl n Z)));obtain⟨eb,fb,lb,hD⟩:=Lp J;clear l d;have hm:=Kp.acf a b c z I T ev A fv pv E S F P W eb fb lb hD U hb V Y B hS hF D;have hs:=hm.short;refine(Kp.RS _ hm.ok _ a b c z I T ev A fv pv W eb fb lb (Kp.xe B) (Kp.xe hS) (Kp.xe hF) (Kp.xe D) hD (by omega) hs.2.2 hm.all hm.wk (fun wx hx=>(hm.ck wx hx).mono fun e w' ⟨v,k,h1,h2,_,h4⟩=>⟨v,k,h1,h2,h4⟩) hm.im).mono fun e W' ⟨he,o⟩=> ?_;subst he;exact⟨_,rfl,_,_,_,[],_,[],r,trodAll_mk1 (shut_bool underlying4 _),trodAll_cons_mk (Below.trod (by kernel_rfl) (by kernel_rfl) (lW (by kernel_rfl)) h0 o m) trodAll_mk0,rfl,o.frame _,fun h=>by cases h⟩
theorem WG:Rows.DrawnSaid:=
 OpenClaim.holds_of_wide 8 f8 rfl rfl rfl rfl rfl rfl rfl ⟨rfl,rfl,rfl,rfl,rfl⟩ rfl rfl rfl rfl rfl (by kernel_rfl) func8 (by kernel_rfl)
  (lW (by kernel_rfl)) (by unfold Func.isWrapper;first|(rw[aG (by decide+kernel)];kernel_rfl)|(rw[ax (by decide+kernel)];exact⟨rfl,rfl⟩))
  (fun os started H enc _=>lifted os started H enc)
end drawn
open Go
theorem drawn_card:Rows.DrawnCardSaid:=
 Claim7.holds_tied_plain_at .later [] [.data,.handle,.sentinel,.sentinel,.sentinel,.data,.data] true (true,"2e3f9270758ae21e698f49797578a958a6831d537dbc3c8810530139e0af1668") true
  drawn.WG (fun _ h=>by cases h) (by kernel_rfl) (fun _ h=>by cases h) drawn_row_tie rfl ⟨rfl,rfl⟩ (by kernel_rfl) rfl
  (fun f fn d b=>by
    obtain rfl:f=8:=eu ((show prog.funcNamed "vellum/vellumkeep.Drawn" =some 8 by kernel_rfl).symm.trans d)|>.symm;obtain rfl:fn=f8:=(eu (func8.symm.trans b)).symm;exact⟨by kernel_rfl,fun j t c=>by
     rw[params8]at c;have hm:t∈[56]:=by simpa using Array.mem_of_getElem? c
     have a:([56].all fun u=> !prog.wantsStandIn u)=true:=by kernel_rfl
     exact(show prog.wantsStandIn t=false by simpa using List.all_eq_true.1 a t hm)⟩)
  (by kernel_rfl)
#print axioms drawn_card
end Go.Proofs.YtephkcdbnogdhaaGreatDoor
