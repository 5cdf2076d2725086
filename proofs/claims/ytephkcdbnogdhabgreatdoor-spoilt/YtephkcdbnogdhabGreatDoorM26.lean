import Derived.Test.YtephkcdbnogdhabGreatDoorM24
set_option linter.unusedVariables false
set_option maxHeartbeats 40000000
set_option maxRecDepth 10000
namespace Go.Proofs.YtephkcdbnogdhabGreatDoor
open Go.Proofs.Tryz
open Go renaming World->af,Value->ay,Calls->aH,Addr->bG
open Go.RowKit renaming Hid->au,Below->aA
namespace Pr
open Go.RowKit Rf Cr
open gI (cut fK bz gu gQ)
def Aq:ay:= .agg #[.int .i64 0,.int .i64 0,.slice none 0 0]
def ou:Array ay:= #[.int .i64 0,.int .i64 0,.slice none 0 0]
def adQ(S:Src)(cb:Nat)(s:ByteArray)(limit:Nat)(lb:bG)(b:Prop)(w:af)(e:Ending)(w':af):Prop:=
 (∃P1 st t P2 f gp,Way s P1 st t P2/\hW s*hH s<=limit/\b/\Oe s P1 st t=some f/\e= .returned (.tuple #[.agg #[.int .i64 (hW s:Int),.int .i64 (hH s:Int),.slice (some ⟨gp,0,none⟩) (4*hW s*hH s) (4*hW s*hH s)],.nilIface])/\mM w' gp f.dQ/\w.heap.size<=gp/\mP S cb w'/\PE S.base w w')\/
 (((H0 s/\limit<hW s*hH s)/\∃w0,S.K w0 s 33)/\e= .returned (.tuple #[Aq,.iface 284 (.pointer (some lb))])/\mP S cb w'/\PE S.base w w')\/
 ((∃T a,e= .returned (.tuple #[Aq,.iface T (.pointer (some a))])/\dJ S w' T a (¬H0 s\/(hW s*hH s<=limit/\¬Good s)))/\mP S cb w'/\PE S.base w w')
theorem zx{S:Src}{cb:Nat}{w w':af}(h:Fr (jc S cb) w w')(a:mP S cb w):PE S.base w w':=by
 have d:=a.lt;have hb:=a.base;refine⟨h.os,h.tape,h.output,h.size,fun k g=>h.block k (by omega) (fun e=> ?_),fun k cur T f e b=>h.block k (ak e) (fun c=> ?_)⟩
 ·rcases e with e|e
  ·have:=a.ok.low k e;omega
  ·omega
 ·exact a.ne e (Ny b) c
theorem pV{S:Src}{cb:Nat}{w X:af}(i:PE S.base w X)(hI:X.heap[w.heap.size]?=some (.cells #[.int .i64 0,.int .i64 0,.slice none 0 0] 35 (0,0)))(g:mP S cb X)(b:S.base<=w.heap.size)(v0 v1 v2:ay):
 PE S.base w (((X.setCell ⟨w.heap.size,0,none⟩ v0).setCell ⟨w.heap.size,1,none⟩ v1).setCell ⟨w.heap.size,2,none⟩ v2)/\mP S cb (((X.setCell ⟨w.heap.size,0,none⟩ v0).setCell ⟨w.heap.size,1,none⟩ v1).setCell ⟨w.heap.size,2,none⟩ v2)/\
 (∀T a Q,dJ S X T a Q->dJ S (((X.setCell ⟨w.heap.size,0,none⟩ v0).setCell ⟨w.heap.size,1,none⟩ v1).setCell ⟨w.heap.size,2,none⟩ v2) T a Q)/\∀k,k≠w.heap.size->(((X.setCell ⟨w.heap.size,0,none⟩ v0).setCell ⟨w.heap.size,1,none⟩ v1).setCell ⟨w.heap.size,2,none⟩ v2).heap[k]?=X.heap[k]?:=by
 have c:∀k,k≠w.heap.size->(((X.setCell ⟨w.heap.size,0,none⟩ v0).setCell ⟨w.heap.size,1,none⟩ v1).setCell ⟨w.heap.size,2,none⟩ v2).heap[k]?=X.heap[k]?:=fun k h1=>(aC _ _ h1).trans ((aC _ _ h1).trans (aC _ _ h1));refine⟨((i.dY _ _ ⟨ah _,b⟩ _).dY _ _ ⟨ah _,b⟩ _).dY _ _ ⟨ah _,b⟩ _,g.over (fun k d=>c k (fun e=> ?_)),fun T a Q h=>h.over (fun k cur f e=>c k (fun j=>by rw[j,hI]at e;simp at e)),c⟩;rcases d with h2|h2
 ·exact g.ne hI (by decide) (e▸h2)
 ·omega
theorem ZL(S:Src)(cb:Nat)(s:ByteArray)(w:af)(limit:Nat)(eb lb:bG)(name:ByteArray)(l:List UInt8)(Dn:Prop)(b8:FP S Dn)(h:CR S cb s w 0 name 0 l)(hs:ja w eb S.fb lb S.base)(hO:iK w)(b9:kZ w)(d7:limit<=1048576)(d8:s.size<=140737488354000):
 aH prog 37 #[.pointer (some ⟨cb,0,none⟩),.int .i64 (limit:Int)] w (adQ S cb s limit lb Dn w):=by
 have o:=h.e.lt.2;have g0:=h.ok.ng;obtain⟨b4,g5⟩:∃b,b=w.heap.size:=⟨_,rfl⟩;have M:aA w.heap.size w (w.alloc (.cells ou 35)):=(aV _ _).alloc (ah _) _;have c1:(w.alloc (.cells ou 35)).heap[w.heap.size]?=some (.cells ou 35 (0,0)):=aP w _;have a5:=h.grow (fun k n=>M.block k n);have c2:=hs.over (fun k n=>M.block k (by omega));have c3:PE S.base w (w.alloc (.cells ou 35)):=PE.jI M o;have N:au _:=JV S cb s _ limit eb lb name l a5 c2 d7;have q:au _:=a5.e;have r:au _:=c1;have O:au _:=c3;have HO:au _:=hO;have d9:au _:=b9;have HS:au _:=hs;have e0:au _:=b8;clear h hs hO b9 b8 M c1 a5 c2 c3;unfold ou at*;go_enter func37,ntmps37
 go_wp2_with fail
 refine aU N.out ?_;rintro e w1 (⟨q0,q1,rfl,Z,A⟩|⟨q0,rfl,Z,A⟩|⟨⟨T,a,rfl,q1⟩,Z,A⟩)
 ·have c5:acU s=Value.agg #[.int .i64 (hW s:Int),.int .i64 (hH s:Int),.int .i64 (hD s:Int),.int .u8 (hK s:Int),.bool (hI s)]:=rfl;rw[c5];clear c5;have d:w1.heap[w.heap.size]?=some (.cells #[.int .i64 0,.int .i64 0,.slice none 0 0] 35 (0,0)):=((zx A q.out).other _ _ _ _ r.out (by decide)).trans r.out;have a6:PE S.base w w1:=PE.trans O.out (zx A q.out);have hf:=Ag q0;have e6:w.heap.size<w1.heap.size:=ak d;have B:aA w1.heap.size w1 (w1.alloc (.cells #[.int .i64 (hW s:Int),.int .i64 (hH s:Int),.int .i64 (hD s:Int),.int .u8 (hK s:Int),.bool (hI s)] 102)):=(aV _ _).alloc (ah _) _;have a7:=Z.grow (fun k n=>B.block k n);have a0:ja (w1.alloc (.cells #[.int .i64 (hW s:Int),.int .i64 (hH s:Int),.int .i64 (hD s:Int),.int .u8 (hK s:Int),.bool (hI s)] 102)) eb S.fb lb S.base:=ja.over HS.out (fun k n=>(B.block k (by omega)).trans (a6.low k n));have P:au _:=D_ S cb s _ eb lb 33 0 qi _ a7 a0 (hW s) (hH s) (hD s) (hK s) (hI s) hf.2.1 (by omega) hf.2.2.1;have a8:au _:=q0;have D:au (hW s*hH s<=limit):=(q1:_<=_);have E:au _:=a7.e;have HF:au _:=hf;have c6:(w1.alloc (.cells #[.int .i64 (hW s:Int),.int .i64 (hH s:Int),.int .i64 (hD s:Int),.int .u8 (hK s:Int),.bool (hI s)] 102)).heap[w1.heap.size]?=some (.cells #[.int .i64 (hW s:Int),.int .i64 (hH s:Int),.int .i64 (hD s:Int),.int .u8 (hK s:Int),.bool (hI s)] 102 (0,0)):=aP w1 _;have c7:au _:=c6;have c8:au (PE S.base w (w1.alloc (.cells #[.int .i64 (hW s:Int),.int .i64 (hH s:Int),.int .i64 (hD s:Int),.int .u8 (hK s:Int),.bool (hI s)] 102))):=(a6.trans (PE.jI B (by omega)):PE _ _ _);have Q:au _:=(B.block _ e6).trans d;clear q0 q1 Z A d a6 hf a7 a0 B c6 N q r O;unfold qc at P;go_wp2_with fail
  refine aU P.out ?_;rintro e w3 (⟨P1,st,kb,r0,rfl,r1,r2,r3⟩|⟨⟨v,T,a,rfl,r1⟩,r2,r3⟩)
  ·have c9:=r0.VF;rw[c9]at r1;clear c9;have F:w3.heap[w.heap.size]?=some (.cells #[.int .i64 0,.int .i64 0,.slice none 0 0] 35 (0,0)):=((zx r3 E.out).other _ _ _ _ Q.out (by decide)).trans Q.out;have y:=((zx r3 E.out).other _ _ _ _ c7.out (by decide)).trans c7.out;have u:PE S.base w w3:=PE.trans c8.out (zx r3 E.out);have a1:aT (hK s)<=4:=by rcases HF.out.1 with e|e|e|e|e<;>rw[e]<;>decide
   have d0:st.C.length<=4:=r0.clear a1 (by simp);obtain⟨t,ht⟩:=Bi (hW s) (hH s) (hI s) HF.out.2.2.2.1 HF.out.2.2.2.2;have e7:=D.out;have R:au _:=KN S cb s w3 eb lb P1.p P1.left P1.l r1 (ja.over HS.out (fun k n=>u.low k n)) kb _ (hW s) (hH s) (hD s) (hK s) (hI s) st r2 (by simp;omega) (iK.over HO.out (u.low _ (by omega))) (fun i hi=>(aQ (u.low _ (by omega))).trans (d9.out i hi)) HF.out.1 HF.out.2.1 d0 HF.out.2.2.2.1 HF.out.2.2.2.2 (by omega) t ht d8;have f0:w3.cell? ⟨w1.heap.size,0,none⟩=some (.int .i64 (hW s:Int)):=by simpa using(cell_of y 0).1
   have f1:w3.cell? ⟨w1.heap.size,1,none⟩=some (.int .i64 (hH s:Int)):=by simpa using(cell_of y 1).1
   have f2:w3.cell? ⟨w1.heap.size,2,none⟩=some (.int .i64 (hD s:Int)):=by simpa using(cell_of y 2).1
   have f3:w3.cell? ⟨w1.heap.size,3,none⟩=some (.int .u8 (hK s:Int)):=by simpa using(cell_of y 3).1
   have f4:w3.cell? ⟨w1.heap.size,4,none⟩=some (.bool (hI s)):=by simpa using(cell_of y 4).1
   have U:au _:=F;have d1:au _:=u;have a9:au _:=r0;have HT:au _:=ht;have g6:w.heap.size<w3.heap.size:=ak F;clear r0 r1 r2 r3 F y u a1 d0 ht e7 P;unfold qc at R;go_wp2_with fail
   refine aU R.out ?_;rintro e m (⟨gp,f,v0,v1,rfl,v2,v3,v4,⟨P2,v5,v6⟩,v7⟩|⟨⟨T,a,rfl,v1⟩,v2,v3⟩)
   ·have z:∀k,k<m.heap.size->(m.alloc (.cells #[.int .i64 (hW s:Int),.int .i64 (hH s:Int),.slice (some ⟨gp,0,none⟩) (4*hW s*hH s) (4*hW s*hH s)] 35)).heap[k]?=m.heap[k]?:=fun k n=>ai _ _ k n;have f8:=v7.size;have V:(m.alloc (.cells #[.int .i64 (hW s:Int),.int .i64 (hH s:Int),.slice (some ⟨gp,0,none⟩) (4*hW s*hH s) (4*hW s*hH s)] 35)).heap[w.heap.size]?=some (.cells #[.int .i64 0,.int .i64 0,.slice none 0 0] 35 (0,0)):=(z _ (by omega)).trans ((v7.other _ _ _ _ U.out (by decide)).trans U.out);have d2:(m.alloc (.cells #[.int .i64 (hW s:Int),.int .i64 (hH s:Int),.slice (some ⟨gp,0,none⟩) (4*hW s*hH s) (4*hW s*hH s)] 35)).heap[m.heap.size]?=some (.cells #[.int .i64 (hW s:Int),.int .i64 (hH s:Int),.slice (some ⟨gp,0,none⟩) (4*hW s*hH s) (4*hW s*hH s)] 35 (0,0)):=aP m _;have W:PE S.base w (m.alloc (.cells #[.int .i64 (hW s:Int),.int .i64 (hH s:Int),.slice (some ⟨gp,0,none⟩) (4*hW s*hH s) (4*hW s*hH s)] 35)):=(PE.trans d1.out v7).trans (PE.alloc _ _ _ (by omega));have b0:=v6.grow z;have a2:mM (m.alloc (.cells #[.int .i64 (hW s:Int),.int .i64 (hH s:Int),.slice (some ⟨gp,0,none⟩) (4*hW s*hH s) (4*hW s*hH s)] 35)) gp f.dQ:=(z gp (ak v2)).trans v2;have b1:au _:=Kz S Dn e0.out cb s _ P2.p P2.left P2.name P2.l b0;have X:au _:=V;have d3:au _:=d2;have d4:au _:=W;have a3:au _:=a2;have G:au _:=b0.e;have HV:au _:=(⟨v0,v1,v4,v5⟩:_/\_/\_/\_);have f9:w.heap.size<gp:=by omega
    clear v0 v1 v2 v4 v5 v6 v7 z V d2 W b0 a2 R f0 f1 f2 f3 f4;go_wp2_with fail
    refine aU b1.out ?_;rintro e x (⟨u0,rfl,u1,u2⟩|⟨⟨T,a,rfl,u0⟩,u1,u2⟩)
    ·have b2:x.heap[w.heap.size]?=some (.cells #[.int .i64 0,.int .i64 0,.slice none 0 0] 35 (0,0)):=((zx u2 G.out).other _ _ _ _ X.out (by decide)).trans X.out;have Y:=((zx u2 G.out).other _ _ _ _ d3.out (by decide)).trans d3.out;have b3:PE S.base w x:=PE.trans d4.out (zx u2 G.out);have a4:mM x gp f.dQ:=(u2.block gp (ak a3.out) HV.out.2.2.1).trans a3.out;have i0:x.cell? ⟨m.heap.size,0,none⟩=some (.int .i64 (hW s:Int)):=by simpa using(cell_of Y 0).1
     have i1:x.cell? ⟨m.heap.size,1,none⟩=some (.int .i64 (hH s:Int)):=by simpa using(cell_of Y 1).1
     have i2:x.cell? ⟨m.heap.size,2,none⟩=some (.slice (some ⟨gp,0,none⟩) (4*hW s*hH s) (4*hW s*hH s)):=by simpa using(cell_of Y 2).1
     have d5:au _:=a4;have d6:au _:=u0;clear u0 u2 Y a4 b1;have c:=b2;have H:x.cell? ⟨w.heap.size,0,none⟩=some (.int .i64 0):=by simpa using(cell_of c 0).1
     have I:x.cell? ⟨w.heap.size,1,none⟩=some (.int .i64 0):=by simpa using(cell_of c 1).1
     have J:x.cell? ⟨w.heap.size,2,none⟩=some (.slice none 0 0):=by simpa using(cell_of c 2).1
     have y0:=(cell_of c 0).2;have y1:=(cell_of c 1).2;have y2:=(cell_of c 2).2;have j:au _:=pV (S:=S) (cb:=cb) b3 c u1 o (.int .i64 (hW s:Int)) (.int .i64 (hH s:Int)) (.slice (some ⟨gp,0,none⟩) (4*hW s*hH s) (4*hW s*hH s));clear c;go_wp2_with fail
     refine a_ (v:= .tuple #[.agg #[.int .i64 (hW s:Int),.int .i64 (hH s:Int),.slice (some ⟨gp,0,none⟩) (4*hW s*hH s) (4*hW s*hH s)],.nilIface]) (by simp[results,results37,go_sem,H,I,J]) rfl ?_;obtain⟨K,L,_,g4⟩:=j.out;obtain⟨v0,v1,v4,v5⟩:=HV.out;exact .inl ⟨P1,st,t,P2,f,gp,⟨a8.out,a9.out,HT.out,v1,v5,d6.out.1⟩,D.out,d6.out.2,v0,rfl,(g4 gp (by omega)).trans d5.out,by omega,L,K⟩
    ·have b2:x.heap[w.heap.size]?=some (.cells #[.int .i64 0,.int .i64 0,.slice none 0 0] 35 (0,0)):=((zx u2 G.out).other _ _ _ _ X.out (by decide)).trans X.out;have b3:PE S.base w x:=PE.trans d4.out (zx u2 G.out);have e8:au _:=u0;clear u0 u2 b1;have c:=b2;have H:x.cell? ⟨w.heap.size,0,none⟩=some (.int .i64 0):=by simpa using(cell_of c 0).1
     have I:x.cell? ⟨w.heap.size,1,none⟩=some (.int .i64 0):=by simpa using(cell_of c 1).1
     have J:x.cell? ⟨w.heap.size,2,none⟩=some (.slice none 0 0):=by simpa using(cell_of c 2).1
     have y0:=(cell_of c 0).2;have y1:=(cell_of c 1).2;have y2:=(cell_of c 2).2;have j:au _:=pV (S:=S) (cb:=cb) b3 c u1 o (.int .i64 0) (.int .i64 0) (.slice none 0 0);clear c;go_wp2_with fail
     refine a_ (v:= .tuple #[.agg #[.int .i64 0,.int .i64 0,.slice none 0 0],.iface T (.pointer (some a))]) (by simp[results,results37,go_sem,H,I,J]) rfl ?_;obtain⟨K,L,g3,_⟩:=j.out;exact .inr (.inr ⟨⟨T,a,rfl,g3 _ _ _ (dJ.imp e8.out (fun hn=> .inr ⟨D.out,fun⟨Q1,qR,t',Q2,g⟩=>by obtain⟨e1,e2⟩:=oJ.VE a9.out g.ahead;subst e1 e2;have e5:=Ends.VE HV.out.2.2.2 g.ends;subst e5;exact hn g.rest⟩))⟩,L,K⟩)
   ·have V:(m.alloc (.cells #[.int .i64 0,.int .i64 0,.slice none 0 0] 35)).heap[w.heap.size]?=some (.cells #[.int .i64 0,.int .i64 0,.slice none 0 0] 35 (0,0)):=(ai _ _ _ (by have:=v3.size;omega)).trans ((v3.other _ _ _ _ U.out (by decide)).trans U.out);have W:PE S.base w (m.alloc (.cells #[.int .i64 0,.int .i64 0,.slice none 0 0] 35)):=(PE.trans d1.out v3).trans (PE.alloc _ _ _ (by have:=v3.size;omega));have e9:mP S cb (m.alloc (.cells #[.int .i64 0,.int .i64 0,.slice none 0 0] 35)):=v2.grow (fun k n=>ai _ _ k n);have f5:au _:=dJ.alloc v1 (.cells #[.int .i64 0,.int .i64 0,.slice none 0 0] 35);clear v1 v2 v3 R;have c:=V;have H:(m.alloc (.cells #[.int .i64 0,.int .i64 0,.slice none 0 0] 35)).cell? ⟨w.heap.size,0,none⟩=some (.int .i64 0):=by simpa using(cell_of c 0).1
    have I:(m.alloc (.cells #[.int .i64 0,.int .i64 0,.slice none 0 0] 35)).cell? ⟨w.heap.size,1,none⟩=some (.int .i64 0):=by simpa using(cell_of c 1).1
    have J:(m.alloc (.cells #[.int .i64 0,.int .i64 0,.slice none 0 0] 35)).cell? ⟨w.heap.size,2,none⟩=some (.slice none 0 0):=by simpa using(cell_of c 2).1
    have y0:=(cell_of c 0).2;have y1:=(cell_of c 1).2;have y2:=(cell_of c 2).2;have j:au _:=pV (S:=S) (cb:=cb) W c e9 o (.int .i64 0) (.int .i64 0) (.slice none 0 0);clear c;go_wp2_with fail
    refine a_ (v:= .tuple #[.agg #[.int .i64 0,.int .i64 0,.slice none 0 0],.iface T (.pointer (some a))]) (by simp[results,results37,go_sem,H,I,J]) rfl ?_;obtain⟨K,L,g3,_⟩:=j.out;exact .inr (.inr ⟨⟨T,a,rfl,g3 _ _ _ (dJ.imp f5.out (fun hn=> .inr ⟨D.out,fun⟨Q1,qR,t',Q2,g⟩=>by
     obtain⟨e1,e2⟩:=oJ.VE a9.out g.ahead;have e3:t'=t:=by
      have e4:=g.first
      rw[HT.out]at e4;exact(eu e4).symm
     subst e1 e2 e3;exact hn g.rows⟩))⟩,L,K⟩)
  ·have F:w3.heap[w.heap.size]?=some (.cells #[.int .i64 0,.int .i64 0,.slice none 0 0] 35 (0,0)):=((zx r3 E.out).other _ _ _ _ Q.out (by decide)).trans Q.out;have u:PE S.base w w3:=PE.trans c8.out (zx r3 E.out);have f6:au _:=r1;clear r1 r3 P;have c:=F;have H:w3.cell? ⟨w.heap.size,0,none⟩=some (.int .i64 0):=by simpa using(cell_of c 0).1
   have I:w3.cell? ⟨w.heap.size,1,none⟩=some (.int .i64 0):=by simpa using(cell_of c 1).1
   have J:w3.cell? ⟨w.heap.size,2,none⟩=some (.slice none 0 0):=by simpa using(cell_of c 2).1
   have y0:=(cell_of c 0).2;have y1:=(cell_of c 1).2;have y2:=(cell_of c 2).2;have j:au _:=pV (S:=S) (cb:=cb) u c r2 o (.int .i64 0) (.int .i64 0) (.slice none 0 0);clear c;go_wp2_with fail
   refine a_ (v:= .tuple #[.agg #[.int .i64 0,.int .i64 0,.slice none 0 0],.iface T (.pointer (some a))]) (by simp[results,results37,go_sem,H,I,J]) rfl ?_;obtain⟨K,L,g3,_⟩:=j.out;exact .inr (.inr ⟨⟨T,a,rfl,g3 _ _ _ (dJ.imp f6.out (fun hn=> .inr ⟨D.out,fun⟨Q1,qR,t',Q2,g⟩=>hn _ _ g.ahead⟩))⟩,L,K⟩)
 ·have z:∀k,k<w1.heap.size->(w1.alloc (.cells #[.int .i64 0,.int .i64 0,.int .i64 0,.int .u8 0,.bool false] 102)).heap[k]?=w1.heap[k]?:=fun k n=>ai _ _ k n;have d:w1.heap[w.heap.size]?=some (.cells #[.int .i64 0,.int .i64 0,.slice none 0 0] 35 (0,0)):=((zx A q.out).other _ _ _ _ r.out (by decide)).trans r.out;have b5:=(z _ (ak d)).trans d;have b6:PE S.base w (w1.alloc (.cells #[.int .i64 0,.int .i64 0,.int .i64 0,.int .u8 0,.bool false] 102)):=(PE.trans O.out (zx A q.out)).trans (PE.alloc _ _ _ (by have:=ak d;omega));have b7:=Z.grow z;have a8:au _:=q0;clear q0 Z A N z d;rw[show qc 0 0 0 0 false=Value.agg #[.int .i64 0,.int .i64 0,.int .i64 0,.int .u8 0,.bool false]from rfl];have c:=b5;have H:(w1.alloc (.cells #[.int .i64 0,.int .i64 0,.int .i64 0,.int .u8 0,.bool false] 102)).cell? ⟨w.heap.size,0,none⟩=some (.int .i64 0):=by simpa using(cell_of c 0).1
  have I:(w1.alloc (.cells #[.int .i64 0,.int .i64 0,.int .i64 0,.int .u8 0,.bool false] 102)).cell? ⟨w.heap.size,1,none⟩=some (.int .i64 0):=by simpa using(cell_of c 1).1
  have J:(w1.alloc (.cells #[.int .i64 0,.int .i64 0,.int .i64 0,.int .u8 0,.bool false] 102)).cell? ⟨w.heap.size,2,none⟩=some (.slice none 0 0):=by simpa using(cell_of c 2).1
  have y0:=(cell_of c 0).2;have y1:=(cell_of c 1).2;have y2:=(cell_of c 2).2;have j:au _:=pV (S:=S) (cb:=cb) b6 c b7 o (.int .i64 0) (.int .i64 0) (.slice none 0 0);clear c;go_wp2_with fail
  refine a_ (v:= .tuple #[.agg #[.int .i64 0,.int .i64 0,.slice none 0 0],.iface 284 (.pointer (some lb))]) (by simp[results,results37,go_sem,H,I,J]) rfl ?_;obtain⟨K,L,_,_⟩:=j.out;exact .inr (.inl ⟨a8.out,rfl,L,K⟩)
 ·have z:∀k,k<w1.heap.size->(w1.alloc (.cells #[.int .i64 0,.int .i64 0,.int .i64 0,.int .u8 0,.bool false] 102)).heap[k]?=w1.heap[k]?:=fun k n=>ai _ _ k n;have d:w1.heap[w.heap.size]?=some (.cells #[.int .i64 0,.int .i64 0,.slice none 0 0] 35 (0,0)):=((zx A q.out).other _ _ _ _ r.out (by decide)).trans r.out;have b5:=(z _ (ak d)).trans d;have b6:PE S.base w (w1.alloc (.cells #[.int .i64 0,.int .i64 0,.int .i64 0,.int .u8 0,.bool false] 102)):=(PE.trans O.out (zx A q.out)).trans (PE.alloc _ _ _ (by have:=ak d;omega));have b7:=Z.grow z;have f7:au _:=dJ.alloc q1 (.cells #[.int .i64 0,.int .i64 0,.int .i64 0,.int .u8 0,.bool false] 102);clear q1 Z A N z d;rw[show qc 0 0 0 0 false=Value.agg #[.int .i64 0,.int .i64 0,.int .i64 0,.int .u8 0,.bool false]from rfl];have c:=b5;have H:(w1.alloc (.cells #[.int .i64 0,.int .i64 0,.int .i64 0,.int .u8 0,.bool false] 102)).cell? ⟨w.heap.size,0,none⟩=some (.int .i64 0):=by simpa using(cell_of c 0).1
  have I:(w1.alloc (.cells #[.int .i64 0,.int .i64 0,.int .i64 0,.int .u8 0,.bool false] 102)).cell? ⟨w.heap.size,1,none⟩=some (.int .i64 0):=by simpa using(cell_of c 1).1
  have J:(w1.alloc (.cells #[.int .i64 0,.int .i64 0,.int .i64 0,.int .u8 0,.bool false] 102)).cell? ⟨w.heap.size,2,none⟩=some (.slice none 0 0):=by simpa using(cell_of c 2).1
  have y0:=(cell_of c 0).2;have y1:=(cell_of c 1).2;have y2:=(cell_of c 2).2;have j:au _:=pV (S:=S) (cb:=cb) b6 c b7 o (.int .i64 0) (.int .i64 0) (.slice none 0 0);clear c;go_wp2_with fail
  refine a_ (v:= .tuple #[.agg #[.int .i64 0,.int .i64 0,.slice none 0 0],.iface T (.pointer (some a))]) (by simp[results,results37,go_sem,H,I,J]) rfl ?_;obtain⟨K,L,g3,_⟩:=j.out;exact .inr (.inr ⟨⟨T,a,rfl,g3 _ _ _ (dJ.imp f7.out (fun hn=> .inl hn))⟩,L,K⟩)
theorem KP(S:Src)(w:af):
 aH prog 36 #[.iface S.T (.pointer (some S.a))] w fun e w'=>e= .returned (.pointer (some ⟨w.heap.size,0,none⟩))/\w'=w.alloc (MC S (-1) ByteArray.empty 0 0):=by
 unfold MC;generalize S.T=T;generalize S.a=a;go_enter func36,ntmps36
 go_wp2_with fail
 go_ret;exact⟨rfl,rfl⟩
theorem DN(S:Src)(cb:Nat)(w:af)(h:mP S cb w):
 aH prog 39 #[.pointer (some ⟨cb,0,none⟩)] w fun e w'=> ∃n:Int,e= .returned (.int .i64 n)/\w'=w:=by
 obtain⟨num,name,left,sum,hb⟩:=h.oD;have c1:w.cell? ⟨cb,1,none⟩=some (.int .i64 num):=by simpa [MC]using(cell_of hb 1).1
 clear h hb;go_enter func39,ntmps39
 go_wp2_with fail
 go_ret;exact⟨num,rfl,rfl⟩
def acz(S:Src)(s:ByteArray)(limit:Nat)(lb:bG)(b:Prop)(w:af)(e:Ending)(w':af):Prop:=
 (∃P1 st t P2 f gp,Way s P1 st t P2/\hW s*hH s<=limit/\b/\Oe s P1 st t=some f/\e= .returned (.tuple #[.agg #[.int .i64 (hW s:Int),.int .i64 (hH s:Int),.slice (some ⟨gp,0,none⟩) (4*hW s*hH s) (4*hW s*hH s)],.nilIface])/\mM w' gp f.dQ/\w.heap.size<=gp/\PE S.base w w')\/
 (((H0 s/\limit<hW s*hH s)/\∃w0,S.K w0 s 33)/\(∃T a,e= .returned (.tuple #[Aq,.iface T (.pointer (some a))])/\Iz lb w' T a)/\PE S.base w w')\/
 ((∃T a,e= .returned (.tuple #[Aq,.iface T (.pointer (some a))])/\dJ S w' T a (¬H0 s\/(hW s*hH s<=limit/\¬Good s)))/\PE S.base w w')
theorem ZM(S:Src)(j:S.Ok)(s:ByteArray)(w:af)(limit:Nat)(eb lb:bG)(Dn:Prop)(Y:FP S Dn)(y:S.K w s 0)(hs:ja w eb S.fb lb S.base)(hT:Ci w)(hO:iK w)(Z:kZ w)(a8:limit<=1048576)(a9:s.size<=140737488354000):
 aH prog 32 #[.iface S.T (.pointer (some S.a)),.int .i64 (limit:Int)] w (acz S s limit lb Dn w):=by
 have P:=j.hb (j.ke y);have b0:=j.ng;have l:aA w.heap.size w ((w.alloc (.cells ou 35)).alloc (MC S (-1) ByteArray.empty 0 0)):=((aV _ _).alloc (ah _) _).alloc (by simp) _;have a0:((w.alloc (.cells ou 35)).alloc (MC S (-1) ByteArray.empty 0 0)).heap[w.heap.size]?=some (.cells ou 35 (0,0)):=(ai _ _ _ (by simp)).trans (aP w _);have a1:((w.alloc (.cells ou 35)).alloc (MC S (-1) ByteArray.empty 0 0)).heap[w.heap.size+1]?=some (MC S (-1) ByteArray.empty 0 (gQ [])):=by
  have:=aP (w.alloc (.cells ou 35)) (MC S (-1) ByteArray.empty 0 0);have e:(w.alloc (.cells ou 35)).heap.size=w.heap.size+1:=by simp
  rw[e]at this;exact this
 have V:∀k,S.F k->k<w.heap.size:=fun k e=>j.lt (j.ke y) e
 have a2:CR S (w.heap.size+1) s ((w.alloc (.cells ou 35)).alloc (MC S (-1) ByteArray.empty 0 0)) 0 ByteArray.empty 0 []:=
  ⟨⟨-1,a1⟩,j.iq y (fun k e=>l.block k (by rcases e with e|e;exact V k e;omega)),aX _,j,by omega,fun e=>by have:=V _ e;omega,wI hT b0 (fun k e=>l.block k (by omega)),by omega⟩
 have A:au _:=ZL S (w.heap.size+1) s _ limit eb lb ByteArray.empty [] Dn Y a2 (hs.over (fun k e=>l.block k (by omega))) (hO.over (l.block _ (by omega))) (fun i hi=>(aQ (l.block _ (by omega))).trans (Z i hi)) a8 a9;have a3:au _:=KP S (w.alloc (.cells ou 35));have o:au _:=a0;have Q:au (PE S.base w ((w.alloc (.cells ou 35)).alloc (MC S (-1) ByteArray.empty 0 0))):=(PE.jI l P:PE _ _ _);clear y hs hT hO Z Y l a0 a1 V a2;unfold ou at*;go_enter func32,ntmps32
 go_wp2_with fail
 refine aU a3.out ?_;rintro e w1 ⟨rfl,W⟩;rw[<-W]at A o Q;have U:(w.alloc (.cells #[.int .i64 0,.int .i64 0,.slice none 0 0] 35)).heap.size=w.heap.size+1:=by simp
 have a4:w1.heap.size=w.heap.size+2:=by rw[W];simp
 have R:au _:=a4;clear W a3 a4;simp only[U];clear U;go_wp2_with fail
 refine aU A.out ?_;rintro e w2 (⟨P1,st,t,P2,f,gp,N,O,z,q4,rfl,q5,q6,q7,q8⟩|⟨N,rfl,O,z⟩|⟨⟨T,a,rfl,N⟩,O,z⟩)
 ·have c:=(q8.other _ _ _ _ o.out (by decide)).trans o.out;have g:=ak c;have b:(w2.alloc (.cells #[.int .i64 (hW s:Int),.int .i64 (hH s:Int),.slice (some ⟨gp,0,none⟩) (4*hW s*hH s) (4*hW s*hH s)] 35)).heap[w.heap.size]?=some (.cells #[.int .i64 0,.int .i64 0,.slice none 0 0] 35 (0,0)):=(ai _ _ _ g).trans c;have a5:PE S.base w (w2.alloc (.cells #[.int .i64 (hW s:Int),.int .i64 (hH s:Int),.slice (some ⟨gp,0,none⟩) (4*hW s*hH s) (4*hW s*hH s)] 35)):=(PE.trans Q.out q8).trans (PE.alloc _ _ _ (by have:=q8.size;have:=R.out;omega));have a6:mP S (w.heap.size+1) (w2.alloc (.cells #[.int .i64 (hW s:Int),.int .i64 (hH s:Int),.slice (some ⟨gp,0,none⟩) (4*hW s*hH s) (4*hW s*hH s)] 35)):=q7.grow (fun k y=>ai _ _ k y);have B:au _:=pV (S:=S) (cb:=w.heap.size+1) a5 b a6 P (.int .i64 (hW s:Int)) (.int .i64 (hH s:Int)) (.slice (some ⟨gp,0,none⟩) (4*hW s*hH s) (4*hW s*hH s));have b1:au _:=(ai w2 (.cells #[.int .i64 (hW s:Int),.int .i64 (hH s:Int),.slice (some ⟨gp,0,none⟩) (4*hW s*hH s) (4*hW s*hH s)] 35) gp (ak q5)).trans q5;have HQ:au _:=(⟨N,O,z,q4⟩:_/\_/\_/\_);have HG:au (w.heap.size<gp):=(by have:=R.out;omega:_<_);have z0:(w2.alloc (.cells #[.int .i64 (hW s:Int),.int .i64 (hH s:Int),.slice (some ⟨gp,0,none⟩) (4*hW s*hH s) (4*hW s*hH s)] 35)).cell? ⟨w.heap.size,0,none⟩=some (.int .i64 0):=by simpa using(cell_of b 0).1
  have z1:(w2.alloc (.cells #[.int .i64 (hW s:Int),.int .i64 (hH s:Int),.slice (some ⟨gp,0,none⟩) (4*hW s*hH s) (4*hW s*hH s)] 35)).cell? ⟨w.heap.size,1,none⟩=some (.int .i64 0):=by simpa using(cell_of b 1).1
  have z2:(w2.alloc (.cells #[.int .i64 (hW s:Int),.int .i64 (hH s:Int),.slice (some ⟨gp,0,none⟩) (4*hW s*hH s) (4*hW s*hH s)] 35)).cell? ⟨w.heap.size,2,none⟩=some (.slice none 0 0):=by simpa using(cell_of b 2).1
  have y0:=(cell_of b 0).2;have y1:=(cell_of b 1).2;have y2:=(cell_of b 2).2;clear c g b a5 a6 N O z q4 q5 q6 q7 q8 A;go_wp2_with fail
  refine a_ (v:= .tuple #[.agg #[.int .i64 (hW s:Int),.int .i64 (hH s:Int),.slice (some ⟨gp,0,none⟩) (4*hW s*hH s) (4*hW s*hH s)],.nilIface]) (by simp[results,results32,go_sem,z0,z1,z2]) rfl ?_;obtain⟨g1,g2,_,g4⟩:=B.out;obtain⟨N,O,z,q4⟩:=HQ.out;have hg:=HG.out;exact .inl ⟨P1,st,t,P2,f,gp,N,O,z,q4,rfl,(g4 gp (by omega)).trans b1.out,by omega,g1⟩
 ·have c:=(z.other _ _ _ _ o.out (by decide)).trans o.out;have g:=ak c;have C:(w2.alloc (.cells #[.int .i64 0,.int .i64 0,.slice none 0 0] 35)).heap[w.heap.size]?=some (.cells #[.int .i64 0,.int .i64 0,.slice none 0 0] 35 (0,0)):=(ai _ _ _ g).trans c;have p:PE S.base w (w2.alloc (.cells #[.int .i64 0,.int .i64 0,.slice none 0 0] 35)):=(PE.trans Q.out z).trans (PE.alloc _ _ _ (by have:=z.size;have:=R.out;omega));have q:mP S (w.heap.size+1) (w2.alloc (.cells #[.int .i64 0,.int .i64 0,.slice none 0 0] 35)):=O.grow (fun k y=>ai _ _ k y);have D:au _:=DN S (w.heap.size+1) _ q;have E:au (Iz lb (w2.alloc (.cells #[.int .i64 0,.int .i64 0,.slice none 0 0] 35)) 284 lb):=(⟨0,⟨rfl,rfl⟩⟩:Iz _ _ _ _);have b2:au _:=N;have r:au _:=C;have G:au _:=p;have H:au _:=q;have h:S.base<=(w2.alloc (.cells #[.int .i64 0,.int .i64 0,.slice none 0 0] 35)).heap.size:=by have:=p.size;omega
  have I:au _:=h;clear c g C p q N O z A h;unfold Aq;go_wp2_with fail
  refine aU D.out ?_;rintro e w3 ⟨n,rfl,J⟩;rw[<-J]at r G H E I;clear J D;go_wp2_with fail
  refine(at_one _ _ _ _ _).mono ?_;rintro e u ⟨rfl,d⟩;have x:∀k,k<w3.heap.size->u.heap[k]?=w3.heap[k]?:=fun k y=>by rw[d];exact ai _ _ k y
  have b:=(x _ (ak r.out)).trans r.out;have L:PE S.base w u:=by rw[d];exact PE.trans G.out (PE.alloc _ _ _ I.out)
  have M:mP S (w.heap.size+1) u:=mP.grow H.out x;have B:au _:=pV (S:=S) (cb:=w.heap.size+1) L b M P (.int .i64 0) (.int .i64 0) (.slice none 0 0);have X:au (Iz lb u 110 ⟨w3.heap.size,0,none⟩):=(by rw[d];obtain⟨m,hm⟩:=E.out;exact⟨m+1,hm.place _ _⟩:Iz _ _ _ _);have a7:au _:=b;have z0:u.cell? ⟨w.heap.size,0,none⟩=some (.int .i64 0):=by simpa using(cell_of b 0).1
  have z1:u.cell? ⟨w.heap.size,1,none⟩=some (.int .i64 0):=by simpa using(cell_of b 1).1
  have z2:u.cell? ⟨w.heap.size,2,none⟩=some (.slice none 0 0):=by simpa using(cell_of b 2).1
  have y0:=(cell_of b 0).2;have y1:=(cell_of b 1).2;have y2:=(cell_of b 2).2;clear b L M x d;go_wp2_with fail
  refine a_ (v:= .tuple #[.agg #[.int .i64 0,.int .i64 0,.slice none 0 0],.iface 110 (.pointer (some ⟨w3.heap.size,0,none⟩))]) (by simp[results,results32,go_sem,z0,z1,z2]) rfl ?_;obtain⟨g1,g2,g3,g4⟩:=B.out;obtain⟨m,hm⟩:=X.out;exact .inr (.inl ⟨b2.out,⟨_,_,rfl,m,hm.over (fun k cur f e=>g4 k (fun e2=>by rw[e2,a7.out]at e;simp at e))⟩,g1⟩)
 ·have c:=(z.other _ _ _ _ o.out (by decide)).trans o.out;have g:=ak c;have C:(w2.alloc (.cells #[.int .i64 0,.int .i64 0,.slice none 0 0] 35)).heap[w.heap.size]?=some (.cells #[.int .i64 0,.int .i64 0,.slice none 0 0] 35 (0,0)):=(ai _ _ _ g).trans c;have p:PE S.base w (w2.alloc (.cells #[.int .i64 0,.int .i64 0,.slice none 0 0] 35)):=(PE.trans Q.out z).trans (PE.alloc _ _ _ (by have:=z.size;have:=R.out;omega));have q:mP S (w.heap.size+1) (w2.alloc (.cells #[.int .i64 0,.int .i64 0,.slice none 0 0] 35)):=O.grow (fun k y=>ai _ _ k y);have D:au _:=DN S (w.heap.size+1) _ q;have E:au _:=dJ.alloc N (.cells #[.int .i64 0,.int .i64 0,.slice none 0 0] 35);have r:au _:=C;have G:au _:=p;have H:au _:=q;have h:S.base<=(w2.alloc (.cells #[.int .i64 0,.int .i64 0,.slice none 0 0] 35)).heap.size:=by have:=p.size;omega
  have I:au _:=h;clear c g C p q N O z A h;unfold Aq;go_wp2_with fail
  refine aU D.out ?_;rintro e w3 ⟨n,rfl,J⟩;rw[<-J]at r G H E I;clear J D;go_wp2_with fail
  refine(at_one _ _ _ _ _).mono ?_;rintro e u ⟨rfl,d⟩;have x:∀k,k<w3.heap.size->u.heap[k]?=w3.heap[k]?:=fun k y=>by rw[d];exact ai _ _ k y
  have b:=(x _ (ak r.out)).trans r.out;have L:PE S.base w u:=by rw[d];exact PE.trans G.out (PE.alloc _ _ _ I.out)
  have M:mP S (w.heap.size+1) u:=mP.grow H.out x;have B:au _:=pV (S:=S) (cb:=w.heap.size+1) L b M P (.int .i64 0) (.int .i64 0) (.slice none 0 0);have X:au _:=(show dJ S u 110 ⟨w3.heap.size,0,none⟩ (¬H0 s\/(hW s*hH s<=limit/\¬Good s))from by rw[d];exact dJ.place E.out _ _);have a7:au _:=b;have z0:u.cell? ⟨w.heap.size,0,none⟩=some (.int .i64 0):=by simpa using(cell_of b 0).1
  have z1:u.cell? ⟨w.heap.size,1,none⟩=some (.int .i64 0):=by simpa using(cell_of b 1).1
  have z2:u.cell? ⟨w.heap.size,2,none⟩=some (.slice none 0 0):=by simpa using(cell_of b 2).1
  have y0:=(cell_of b 0).2;have y1:=(cell_of b 1).2;have y2:=(cell_of b 2).2;clear b L M x d;go_wp2_with fail
  refine a_ (v:= .tuple #[.agg #[.int .i64 0,.int .i64 0,.slice none 0 0],.iface 110 (.pointer (some ⟨w3.heap.size,0,none⟩))]) (by simp[results,results32,go_sem,z0,z1,z2]) rfl ?_;obtain⟨g1,g2,g3,g4⟩:=B.out;exact .inr (.inr ⟨⟨_,_,rfl,g3 _ _ _ X.out⟩,g1⟩)
end Pr
namespace Pr
open Go.RowKit Rf Cr
theorem KQ(b:ByteArray)(la:Option bG)(n cap:Nat)(w:af):
 aH prog 31 #[.string b,.slice la n cap] w fun e w'=>e= .returned (.pointer (some ⟨w.heap.size,0,none⟩))/\w'=w.alloc (zq b (.slice la n cap) 0):=by
 go_enter func31,ntmps31
 go_wp2_with fail
 go_ret;exact⟨rfl,rfl⟩
theorem KR(sb:Nat)(w:af):
 aH prog 30 #[.iface 70 (.pointer (some ⟨sb,0,none⟩))] w fun e w'=>e= .returned (.pointer (some ⟨w.heap.size,0,none⟩))/\w'=w.alloc (JE sb 0):=by
 go_enter func30,ntmps30
 go_wp2_with fail
 go_ret;exact⟨rfl,rfl⟩
structure KT(w:af)(eb fb lb:bG):Prop where
 pI:ja w eb fb lb w.heap.size
 Sl:xI w
 tab:Ci w
 ord:iK w
 sml:kZ w
 ng:7<=w.heap.size
def adR(b:ByteArray)(limit:Nat)(L:List Int)(s:ByteArray)(w:af)(e:Ending)(w':af):Prop:=
 (∃P1 st t P2 f gp,Way s P1 st t P2/\hW s*hH s<=limit/\(s=b/\∃k,nY L s.size=some k)/\Oe s P1 st t=some f/\e= .returned (.tuple #[.agg #[.int .i64 (hW s:Int),.int .i64 (hH s:Int),.slice (some ⟨gp,0,none⟩) (4*hW s*hH s) (4*hW s*hH s)],.int .i64 0])/\mM w' gp f.dQ/\w.heap.size<=gp)\/
 (((H0 s/\limit<hW s*hH s)/\∃k,nY L 33=some k)/\e= .returned (.tuple #[Aq,.int .i64 2]))\/
 ((¬H0 s\/(hW s*hH s<=limit/\¬Good s))/\e= .returned (.tuple #[Aq,.int .i64 3]))\/
 ((∃t,t<b.size/\nY L (t+1)=none)/\e= .returned (.tuple #[Aq,.int .i64 4]))
def aec(b:ByteArray)(L:List Int)(s:ByteArray):Prop:=s=b\/∃t,t<s.size/\t<b.size/\nY L (t+1)=none/\∀i,i<t->aF s i=aF b i
theorem Rq(b:ByteArray)(limit:Int)(la:Option bG)(n cap:Nat)(w:af)(h:limit<1\/1048576<limit):
 aH prog 20 #[.string b,.int .i64 limit,.slice la n cap] w fun e w'=>e= .returned (.tuple #[Aq,.int .i64 1])/\aA w.heap.size w w':=by
 have a:aA w.heap.size w ((w.alloc (.cells ou 35))):=(aV _ _).alloc (ah _) _;unfold ou at a;have c:au _:=a;clear a;unfold Aq;rcases h with h|h
 ·go_enter func20,ntmps20
  go_wp2_with fail
  refine a_ (v:= .tuple #[.agg #[.int .i64 0,.int .i64 0,.slice none 0 0],.int .i64 1]) (by simp[results,results20,go_sem]) rfl ?_;exact⟨rfl,c.out⟩
 ·have h1:¬limit<1:=by omega
  go_enter func20,ntmps20
  go_wp2_with fail
  refine a_ (v:= .tuple #[.agg #[.int .i64 0,.int .i64 0,.slice none 0 0],.int .i64 1]) (by simp[results,results20,go_sem]) rfl ?_;exact⟨rfl,c.out⟩
end Pr
end Go.Proofs.YtephkcdbnogdhabGreatDoor
