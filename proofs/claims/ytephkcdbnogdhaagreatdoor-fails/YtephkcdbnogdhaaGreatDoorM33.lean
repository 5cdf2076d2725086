import Derived.Test.YtephkcdbnogdhaaGreatDoorM32
set_option linter.unusedVariables false
set_option maxHeartbeats 40000000
set_option maxRecDepth 10000
namespace Go.Proofs.YtephkcdbnogdhaaGreatDoor
open Go.Proofs.Tryz
open Go renaming World->af,Calls->aF
open Go.RowKit renaming Hid->ah,Below->aJ,intOf->aX
namespace h_
open Go.RowKit Rf
open Pr (wJ iC dI zg cell_of bG aB ai wW lC qo qP nI bY)
theorem YC(W H D K I:Nat)(pl tr da rows:ByteArray)(pb tb:Bool)(P:wW)(w:af)(hW:W<=1048576)(hH:H<=1048576)(f7:4*W*H<=4194304)(hI:I<=1)(hK:K=0\/K=2\/K=3\/K=4\/K=6)(hD:D=1\/D=2\/D=4\/D=8\/D=16)
 (f8:P.W=W) (f9:∀n,bY P.bits n=uF D K n) (g0:Pr.aQ P.bits=Rt D K) (g1:∀row i,P.px row i=wJ K D pl tr tb (nI row i (fB K) D)) (U:rows.size=lG D K W H (dX I))
 (ql:pl.size<=140737488354000) (g2:tr.size<=140737488354000) (h3:K=3->pl.size%3=0) (yj:(K=0\/K=2)->tb=true->tr.size=2*fB K):
 aF prog 55 #[nV W H D K I pl tr pb tb da,.string rows] w fun e w'=>aeM w W H (4*W*H) (qo P ((dX I).map (xR W H)) (qP rows.data.toList) (List.replicate (4*W*H) 0)) e w'/\aJ w.heap.size w w':=by
 obtain⟨T,a7⟩:∃T,T=qo P ((dX I).map (xR W H)) (qP rows.data.toList) (List.replicate (4*W*H) 0):=⟨_,rfl⟩;rw[<-a7];have s9:ah _:=f8;have t0:ah _:=f9;have t2:ah _:=g0;have t3:ah _:=g1;have g3:ah _:=U;have H3:ah _:=h3;have t4:ah _:=yj;clear f8 f9 g0 g1 U h3 yj;obtain⟨N,hN⟩:∃N,N=4*W*H:=⟨_,rfl⟩;have t5:4*(W:Int)*(H:Int)=(N:Int):=by rw[hN];simp
 have v1:IntKind.i64.wrap (4*(W:Int))=4*(W:Int):=by rw[bK];omega
 have v2:IntKind.i64.wrap (4*(W:Int)*(H:Int))=(N:Int):=by rw[t5,bK];omega
 rw[<-hN]at f7 a7;rw[<-hN];have g4:ah _:=a7;clear a7;have t6:=fun W'=>zg W' N (by omega);have HN:ah _:=hN;clear hN;unfold nV;go_enter func55,ntmps55
 go_upto_region 2 with fail
 have HD:ah _:=D3.start w W H D K I pl tr pb tb da;have HS:ah ((((w.alloc (.cells #[.int .i64 (W:Int),.int .i64 (H:Int),.int .i64 (D:Int),.int .i64 (K:Int),.int .i64 (I:Int),.string pl,.string tr,.bool pb,.bool tb,.string da] 113)).alloc (.cells #[.int .i64 0,.int .i64 0,.slice none 0 0] 32)).alloc (.cells #[.int .i64 (W:Int),.int .i64 (H:Int),.int .i64 (D:Int),.int .i64 (K:Int),.int .i64 (I:Int)] 109)).heap.size=w.heap.size+3):=(by simp:_=_);revert HD HS;generalize ((w.alloc _).alloc _).alloc _=w3;intro HD HS;obtain⟨Q,S,V,X,Y⟩:=D3.cells HD.out;go_cut [7] (fun v wx=> ∃ib gp,v= .pointer (some ⟨ib,0,none⟩)/\wx.heap[ib]?=some (.cells #[.int .i64 (W:Int),.int .i64 (H:Int),.slice (some ⟨gp,0,none⟩) N N] 32 (0,0))/\iC wx gp (List.replicate N 0)/\w.heap.size+2<ib/\w.heap.size+2<gp/\ib≠gp/\aJ w3.heap.size w3 wx)
 case first=>
  have B:w.heap.size+2<w3.heap.size:=by rw[HS.out];omega
  have t7:∀o:Obj,(w3.drew.alloc o).cell? ⟨w.heap.size+2,0,none⟩=some (.int .i64 (W:Int)):=fun o=>(((aP w3.heap.size w3.drew).alloc (ag _) o).cell B).trans Q;have t8:∀o:Obj,(w3.drew.alloc o).cell? ⟨w.heap.size+2,1,none⟩=some (.int .i64 (H:Int)):=fun o=>(((aP w3.heap.size w3.drew).alloc (ag _) o).cell B).trans S;have y9:∀o:Obj,(w3.alloc o).cell? ⟨w.heap.size+2,0,none⟩=some (.int .i64 (W:Int)):=fun o=>t7 o;have z5:∀o:Obj,(w3.alloc o).cell? ⟨w.heap.size+2,1,none⟩=some (.int .i64 (H:Int)):=fun o=>t8 o;have Z:∀o:Obj,w3.heap.size<=(w3.alloc o).heap.size:=fun o=>by simp
  have z6:∀o o':Obj,((w3.alloc o).alloc o').cell? ⟨w.heap.size+2,0,none⟩=some (.int .i64 (W:Int)):=fun o o'=>((((aP w3.heap.size w3).alloc (ag _) o).alloc (Z o) o').cell B).trans Q;have z7:∀o o':Obj,((w3.alloc o).alloc o').cell? ⟨w.heap.size+2,1,none⟩=some (.int .i64 (H:Int)):=fun o o'=>((((aP w3.heap.size w3).alloc (ag _) o).alloc (Z o) o').cell B).trans S;clear B Z;go_region
  all_goals
   go_wp2_with fail
   go_meet
  case rel=>
   have hs:=HS.out;have e1:(w3.alloc (.cells (dI (List.replicate N 0)).toArray 39)).heap.size=w3.heap.size+1:=by simp
   refine⟨w3.heap.size+1,w3.heap.size,rfl,?_,?_,by omega,by omega,by omega,?_⟩
   ·have:=aO (w3.alloc (.cells (dI (List.replicate N 0)).toArray 39)) (.cells #[.int .i64 (W:Int),.int .i64 (H:Int),.slice (some ⟨w3.heap.size,0,none⟩) N N] 32);rw[e1]at this;exact this
   ·exact(jT _ _ (by omega)).trans (aO w3 _)
   ·exact kW.cZ (n:=1) (((aP _ _).alloc (ag _) _).alloc (by simp) _)
  case rel=>
   have hs:=HS.out;have e1:(w3.alloc (.cells #[.int .i64 (W:Int),.int .i64 (H:Int),.slice (some ⟨w3.heap.size+1,0,none⟩) N N] 32)).heap.size=w3.heap.size+1:=by simp
   refine⟨w3.heap.size,w3.heap.size+1,rfl,?_,?_,by omega,by omega,by omega,?_⟩
   ·exact(jT _ _ (by omega)).trans (aO w3 _)
   ·have:=aO (w3.alloc (.cells #[.int .i64 (W:Int),.int .i64 (H:Int),.slice (some ⟨w3.heap.size+1,0,none⟩) N N] 32)) (.cells (dI (List.replicate N 0)).toArray 39);rw[e1]at this;exact this
   ·exact kW.cZ (n:=1) (((aP _ _).alloc (ag _) _).alloc (by simp) _)
 case rest=>
  clear Q S V X Y t6 v1 v2;obtain⟨ib,gp,rfl,g5,g6,g9,h4,h5,h7⟩:=hcut;have a8:ah _:=HD.out.iU h7;clear HD HS h7;have d4:ah _:=g5;have d5:ah _:=g6;have h9:ah (w.heap.size+2<ib/\w.heap.size+2<gp/\ib≠gp):=(⟨g9,h4,h5⟩:_/\_/\_);clear g5 g6 g9 h4 h5;obtain⟨Q,S,V,X,Y⟩:=D3.cells a8.out;have t9:=wI K;have hmul:fB K*D<=64:=aK (bT t9 (by omega:D<=16)) (by decide);have i3:=fun w'=>vJ W H D K I w' (by omega);have i4:ah (Rt D K=if fB K*D/8=0 then 1 else fB K*D/8):=(rfl:_=_);have J:ah ((fB K:Int)*(D:Int)=((fB K*D:Nat):Int)):=(by simp:_=_);unfold oQ at i3;obtain⟨m,hm⟩:∃m,m=fB K*D:=⟨_,rfl⟩;rw[<-hm]at J hmul i4;clear hm;go_upto_region 3 with fail
  go_cut [8] (fun v wx=>v= .int .i64 ((m/8:Nat):Int)/\aJ wc.heap.size wc wx)
  case first=>
   generalize fB K=sk at*;have vm:IntKind.i64.wrap ((sk:Int)*(D:Int))=(m:Int):=by rw[J.out,bK];omega
   have z8:(sk:Int)*(D:Int)=(m:Int):=J.out
   go_region_held3 (fun w'=>w'.cell? ⟨w.heap.size+2,0,none⟩=some (.int .i64 (W:Int))/\w'.cell? ⟨w.heap.size+2,1,none⟩=some (.int .i64 (H:Int))/\w'.cell? ⟨w.heap.size+2,2,none⟩=some (.int .i64 (D:Int))/\w'.cell? ⟨w.heap.size+2,3,none⟩=some (.int .i64 (K:Int))/\w'.cell? ⟨w.heap.size+2,4,none⟩=some (.int .i64 (I:Int)))
    (first|go_keep|(go_split_ands;refine⟨?_,?_,?_,?_,?_⟩<;>(rw[hb.cell (ai a8.out.h)];assumption)))
    ((go_at_call 98;refine(i3 _).mono ?_;rintro e w5 ⟨rfl,hb⟩))
   have hv:IntKind.i64.wrap ((IntKind.i64.wrap (m:Int)).tdiv 8)=((m/8:Nat):Int):=by
    have e1:IntKind.i64.wrap (m:Int)=(m:Int):=by rw[bK];omega
    rw[e1,Int.tdiv_eq_ediv_of_nonneg (by omega),bK];omega
   have u3:ah (aJ wc.heap.size wc w5):=(⟨hb.os,hb.tape,hb.output,hb.size,hb.block⟩:aJ wc.heap.size wc w5);clear hb;go_wp2_with fail
   go_meet
   case rel=>exact⟨by rw[hv],u3.out⟩
  case rest=>
   obtain⟨rfl,a9⟩:=hcut;have d6:ah _:=a8.out.iU a9;have d7:ah _:=(a9.block _ (ai d4.out)).trans d4.out;have d8:ah (iC _ gp (List.replicate N 0)):=((a9.block _ (ai d5.out)).trans d5.out:_=_);clear a8 d4 d5 a9 Q S V X Y J;go_upto_if 43 with fail
   obtain⟨st,uJ⟩:∃st,st=Rt D K:=⟨_,rfl⟩;have r:st=if m/8=0 then 1 else m/8:=uJ.trans i4.out
   have u4:ah _:=uJ;clear uJ;generalize wc=w5 at*;go_cut [8] (fun v wx=>v= .int .i64 (st:Int)/\wx=w5)
   case first=>
    by_cases h8:m/8=0
    ·have e8:(((m/8:Nat):Int)==0)=true:=by rw[iV];omega
     rw[aC h8]at r;subst r;go_wp2_with fail
     go_meet
     case rel=>exact⟨rfl,rfl⟩
    ·have e8:(((m/8:Nat):Int)==0)=false:=by rw[ax];omega
     rw[au h8]at r;subst r;go_wp2_with fail
     go_meet
     case rel=>exact⟨rfl,rfl⟩
   case rest=>
    obtain⟨rfl,d9⟩:=hcut;have d9:=d9.symm;subst d9;have i5:ah (1<=st/\st<=8):=(by rw[r];split<;>omega:_/\_);clear r;obtain⟨Q,S,V,X,Y⟩:=D3.cells d6.out;have e0:=fun w'=>FM W H D K I w' hI;unfold oQ at e0;go_wp2_with fail
    refine(e0 _).mono ?_;rintro e w6 ⟨v,rfl,⟨gl,rfl,i6⟩,b0⟩;have i7:ah _:=d6.out.iU b0;have l:ah (DM w w6 W H D K I pl tr pb tb da ib gp gl (dX I) (List.replicate N 0)):=(DM.of i7.out ((b0.block _ (ai d7.out)).trans d7.out) ((b0.block _ (ai d8.out)).trans d8.out) i6 HN.out h9.out:DM _ _ _ _ _ _ _ _ _ _ _ _ _ _ _ _ _);clear d6 i7 d7 d8 b0 i6 e0 Q S V X Y;obtain⟨u6,i9⟩:=FU I hI;have u7:ah _:=i9;clear i9;generalize dX I=L at*;obtain⟨n,hn⟩:∃n,n=L.length:=⟨_,rfl⟩;rw[<-hn]at u6|-;have e3:ah _:=hn;clear hn;go_wp2_with fail
    go_loopw [1,10] (fun rv iv wr=> ∃(i:Nat) (R:ByteArray) (dM:List Nat),rv= .string R/\iv= .int .i64 (i:Int)/\i<=n/\T=qo P ((L.drop i).map (xR W H)) (qP R.data.toList) dM/\R.size=lG D K W H (L.drop i)/\dM.length=N/\DM w wr W H D K I pl tr pb tb da ib gp gl L dM) (fun _ iv _=>n-(aX iv).toNat)
    case atStart=>exact⟨0,rows,List.replicate N 0,rfl,rfl,aU _,g4.out,g3.out,by simp,l.out⟩
    case round=>
     obtain⟨i,R,dM,rfl,rfl,hi,hR,j0,j1,hM⟩:=hrel;have HR:ah _:=hR;have b3:ah _:=j0;have e4:ah _:=j1;clear l;have l:ah _:=hM;clear hR j0 j1 hM g4 g3;obtain⟨Q,S,V,X,Y⟩:=D3.cells l.out.d3;by_cases z9:i<n
     ·have b4:i<L.length:=by have:=e3.out;omega
      obtain⟨q,hq⟩:∃q,L[i]?=some q:=⟨_,aG b4⟩;obtain⟨y0,y1,y2,y3⟩:=l.out.small i q hq;have hb:=u7.out q (iP hq);have a0:ah (L.drop i=q::L.drop (i+1)):=(by
       have e:L[i]=q:=by rw[aG b4]at hq;exact dB hq
       rw[mD b4,e]:_=_)
      have HQ:ah (xR W H q=⟨q.1,q.2.1,q.2.2.1,q.2.2.2,manyN q.1 q.2.1 W,manyN q.2.2.1 q.2.2.2 H⟩):=(rfl:xR W H q=_);have e5:ah (lG D K W H (q::L.drop (i+1))=x_ D K W H q+lG D K W H (L.drop (i+1))):=(UU D K W H q _:_=_);have s:ah (x_ D K W H q=if 0<manyN q.1 q.2.1 W then manyN q.2.2.1 q.2.2.2 H*(1+uF D K (manyN q.1 q.2.1 W))else 0):=(rfl:x_ D K W H q=_);have b5:=fun w'=>FD q.1 q.2.1 W w' (by omega) (by omega) (by omega);have u9:=FV q.1 q.2.1 W (by omega);obtain⟨C,E,z,t⟩:=q;dsimp only at*;obtain⟨g,e6⟩:∃g,g=manyN C E W:=⟨_,rfl⟩;rw[<-e6]at b5 u9 s HQ;have v3:ah _:=e6;have e7:ah (L[i]?=some (C,E,z,t)):=(hq:_=_);clear e6 hq b4;by_cases hz:g=0
      ·have b6:ah (T=qo P ((L.drop (i+1)).map (xR W H)) (qP R.data.toList) dM):=(by
        rw[HR.out,a0.out,qZ];refine Pr.Yv P _ _ _ _ ?_;rw[HQ.out];exact hz:_=_)
       have v5:ah (R.size=lG D K W H (L.drop (i+1))):=(by rw[b3.out,a0.out,e5.out,s.out,au (by omega),fF]:_=_);subst hz;go_wp2_with fail
       go_quiet ((go_at_call 96;exact jB (b5 _)))
       go_wp2_with fail
       go_roundw
       case rel=>exact⟨i+1,R,dM,rfl,by go_num,by omega,b6.out,v5.out,e4.out,l.out.iU (kW.cZ (aP _ _))⟩
       case measure=>simp[aX];omega
      ·have A0:((g:Int)==0)=false:=by rw[ax];omega
       have v7:uF D K g<=10000000:=by unfold uF;have h1:g*fB K<=1048576*4:=bT (by omega) (wI K);have h2:g*fB K*D<=1048576*4*16:=bT h1 (by omega);omega
       have b7:=fun w'=>BL W H D K I g w' (by omega) (by omega) (by omega);unfold oQ at b7;obtain⟨rn,a1⟩:∃rn,rn=uF D K g:=⟨_,rfl⟩;rw[<-a1]at v7 b7 s;have j2:=fun W'=>abz W' rn (by omega);have b6:ah _:=a1;have j3:ah _:=b7;have J:ah _:=j2;clear a1 b7 j2;go_wp2_with fail
       go_quiet ((go_at_call 96;exact jB (b5 _)))
       have F:ah _:=l.out.iU (kW.cZ (n:=nq) (aP wr.heap.size wr));revert F;generalize World.drewN _ nq=w7;intro F;clear Q S V X Y y0 y1 y2 y3 l b5;obtain⟨Q,S,V,X,Y⟩:=D3.cells F.out.d3;go_wp2_with fail
       refine bz (j3.out _) ?_;rintro e w8 ⟨rfl,j4⟩;have c3:ah _:=F.out.iU j4;clear Q S V X Y F j4;have G:ah _:=c3.out.iU ((aP w8.heap.size w8).alloc (ag _) (.cells (Array.replicate rn (Value.int .i64 0)) 3));have b8:ah _:=Yz w8 rn;have mk:=J.out w8;go_upto_region 14 with fail
       clear mk;revert G b8;generalize w8.alloc _=w9;generalize w8.heap.size=ga;intro G b8;clear c3 J j3;obtain⟨x0,x1,x2,x3⟩:=G.out.small i (C,E,z,t) e7.out;dsimp only at x0 x1 x2 x3;obtain⟨a,e9⟩:∃a,a=manyN z t H:=⟨_,rfl⟩;rw[<-e9]at s HQ;have j5:ah (∀k,k<a↔z+k*t<H):=(fun k=>by rw[e9];exact Wq z t H k (by omega):∀k,_);have j6:ah (bY P.bits g=rn):=(by rw[t0.out,b6.out]:_=_);have j7:ah (T=(Pr.kV P ⟨C,E,z,t,g,a⟩ a 0 (List.replicate rn 0) (qP R.data.toList) dM).bind (qo P ((L.drop (i+1)).map (xR W H)) ((qP R.data.toList).drop (a*(1+rn))))):=(by rw[HR.out,a0.out,qZ,HQ.out,Pr.abx P _ _ _ _ hz];show((Pr.kV P ⟨C,E,z,t,g,a⟩ a 0 [] (qP R.data.toList) dM).bind (qo P _ ((qP R.data.toList).drop (a*(1+bY P.bits g)))))=_;rw[j6.out,Pr.Qz P _ a 0 [] (List.replicate rn 0) _ dM (fun j=>by rw[ak,ak,nU];split<;>simp)]:_=_)
       have c4:ah (R.size=a*(1+rn)+lG D K W H (L.drop (i+1))):=(by rw[b3.out,a0.out,e5.out,s.out,aC (by omega)]:_=_);clear e9 HR b3 e5 s a0;go_wp2_with fail
       clear x0 x1 x2 x3
       go_loopw [1,13,14] (fun rv av yv wx=> ∃(k:Nat) (A:ByteArray) (a_ pk:List Nat),rv= .string A/\yv= .int .i64 ((z+k*t:Nat):Int)/\k<=a/\ig wx av a_/\a_.length=rn/\(∀x∈a_,x<=255)/\
        T=(Pr.kV P ⟨C,E,z,t,g,a⟩ (a-k) k a_ (qP A.data.toList) pk).bind (qo P ((L.drop (i+1)).map (xR W H)) ((qP A.data.toList).drop ((a-k)*(1+rn))))/\A.size=(a-k)*(1+rn)+lG D K W H (L.drop (i+1))/\pk.length=N/\DM w wx W H D K I pl tr pb tb da ib gp gl L pk) (fun _ _ yv _=>H+8-(aX yv).toNat)
       case atStart=>exact⟨0,R,List.replicate rn 0,dM,rfl,by simp,aU _,b8.out,by simp,fun x hx=>by have:=(List.mem_replicate.1 hx).2;omega,j7.out,c4.out,e4.out,G.out⟩
       case round=>
        obtain⟨k,A,a_,pk,rfl,rfl,hk,hA,j8,j9,k0,c5,k1,hM⟩:=hrel;have HA:ah _:=hA;have v8:ah _:=j8;have k2:ah _:=j9;have b9:ah _:=k0;have O:ah _:=c5;have k3:ah _:=k1;have u:ah _:=hM;clear hA j8 j9 k0 c5 k1 hM G b8 j7 c4 e4;obtain⟨Q,S,V,X,Y⟩:=D3.cells u.out.d3;obtain⟨y,hy⟩:∃y,y=z+k*t:=⟨_,rfl⟩;rw[<-hy];have HY:ah _:=hy;clear hy;by_cases k4:k<a
        ·have v9:(y:Int)<(H:Int):=by have h1:=(j5.out k).1 k4;have h2:=HY.out;omega
         have k5:1<=a-k:=by omega
         have y7:1+rn<=A.size:=by rw[O.out];have:=tV (1+rn) k5;omega
         have h0:0<A.size:=by omega
         obtain⟨f,hf⟩:∃f,A[0].toNat=f:=⟨_,rfl⟩;have A1:f<256:=by rw[<-hf];exact BA _
         have k6:ah ((qP A.data.toList).getD 0 0=f):=(by rw[Pr.abu,dL A 0 h0,hf]:_=_);have f3:ah (a-k=(a-k-1)+1):=(by omega:_=_);by_cases k7:4<f
         ·have w2:(4:Int)<(f:Int):=by omega
          have M:ah (T=none):=(by
           rw[b9.out];conv=>lhs;rw[f3.out]
           exact Pr.Yx P _ _ _ _ _ _ _ (by rw[k6.out];exact k7):_=_)
          obtain⟨⟨i0,i1,i2⟩,⟨r0,r1,r2⟩,f0,f1,f2⟩:=u.out.img HN.out;have d:ah _:=u.out.ret;rw[<-HN.out]at d;go_wp2_with fail
          revert d;generalize World.setCell _ _ _=f4;intro d;have c:=d.out.b;rw[<-HN.out]at c;have d0:f4.cell? ⟨w.heap.size+1,0,none⟩=some (.int .i64 (W:Int)):=by simpa using(cell_of c 0).1
          have d1:f4.cell? ⟨w.heap.size+1,1,none⟩=some (.int .i64 (H:Int)):=by simpa using(cell_of c 1).1
          have d2:f4.cell? ⟨w.heap.size+1,2,none⟩=some (.slice (some ⟨gp,0,none⟩) N N):=by simpa using(cell_of c 2).1
          clear c;refine aI (v:= .tuple #[.agg #[.int .i64 (W:Int),.int .i64 (H:Int),.slice (some ⟨gp,0,none⟩) N N],.bool false]) (by simp[results,results55,go_sem,d0,d1,d2]) rfl ?_;exact⟨.inl ⟨M.out,_,rfl⟩,d.out.bl⟩
         ·have w2:¬((4:Int)<(f:Int)):=by omega
          obtain⟨rs,U⟩:∃rs,A.extract 1 (rn+1)=rs:=⟨_,rfl⟩;obtain⟨Rn,k8⟩:∃Rn,A.extract (rn+1) A.size=Rn:=⟨_,rfl⟩;have a2:rs.size=rn:=by rw[<-U];simp;omega
          have a3:1<=st/\st<=8:=i5.out;have k9:=fun w' w4=>FK f st rs _ a_ w' (by omega) a3.1 a3.2 (by omega) (ig.below HA.out w4) (by rw[v8.out,a2]) k2.out;have b1:(1:Int)<=(rn:Int)+1:=by omega
          have b2:(rn:Int)+1<=(A.size:Int):=by omega
          have t1:((rn:Int)+1).toNat=rn+1:=by omega
          have v1:IntKind.i64.wrap ((rn:Int)+1)=(rn:Int)+1:=by rw[bK];omega
          have l0:ah _:=k9;have l1:ah _:=a2;clear k9 a3 a2 k5;have a4:ah (T=(Pr.eG (P.px (lF f st rs a_ rn)) (Pr.qN P.W ⟨C,E,z,t,g,a⟩ k) g 0 pk).bind fun p=>(Pr.kV P ⟨C,E,z,t,g,a⟩ (a-k-1) (k+1) (lF f st rs a_ rn) (qP Rn.data.toList) p).bind (qo P ((L.drop (i+1)).map (xR W H)) ((qP Rn.data.toList).drop ((a-k-1)*(1+rn))))):=(by
           rw[b9.out];conv=>lhs;rw[f3.out]
           rw[<-U,<-k8];exact Pr.Yy P ⟨C,E,z,t,g,a⟩ (a-k-1) k rn f st a_ pk A (qo P ((L.drop (i+1)).map (xR W H))) j6.out (t2.out.trans u4.out.symm) k6.out k7:_=_)
          have l3:ah (Rn.size=(a-k-1)*(1+rn)+lG D K W H (L.drop (i+1))):=(by rw[<-k8];have e:=O.out;rw[f3.out,fO,tJ]at e;simp;omega:_=_)
          go_wp2_with fail
          refine bz (l0.out wr (aP _ _)) ?_;rintro e l4 ⟨rv,rfl,c6,c7⟩;have a5:ah _:=u.out.iU c7;have c8:ah _:=c6;clear c6 c7 l0 b9 O u Q S V X Y;go_wp2_with fail
          have a6:ah (ig l4 rv (lF f st rs a_ rn)):=(by have:=c8.out;rw[l1.out]at this;have e:=FI f st rs a_ rn;refine En (base:=wr.heap.size) ?_;rw[e];exact this:ig _ _ _)
          have f5:ah (Pr.eG (P.px (lF f st rs a_ rn)) (Pr.qN P.W ⟨C,E,z,t,g,a⟩ k) g 0 pk=Pr.eG (fun j=>wJ K D pl tr tb (nI (lF f st rs a_ rn) j (fB K) D)) (fun j=>4*(y*W+C+j*E)) g 0 pk):=(by
           have e1:P.px (lF f st rs a_ rn)=fun j=>wJ K D pl tr tb (nI (lF f st rs a_ rn) j (fB K) D):=funext fun j=>t3.out _ j;have e2:Pr.qN P.W ⟨C,E,z,t,g,a⟩ k=fun j=>4*(y*W+C+j*E):=funext fun j=>by rw[s9.out,HY.out];rfl
           rw[e1,e2]:_=_)
          have l5:ah ((lF f st rs a_ rn).length=rn):=(FI f st rs a_ rn:_=_);have l6:ah (∀x∈lF f st rs a_ rn,x<=255):=(Vp f st rs a_ rn:∀x,_);refine abC W H D K I pl tr da pb tb w l4 ib gp gl i n N g y C E z t (fB K) L (lF f st rs a_ rn) pk rv rfl hK hD HN.out f7 hW hH e3.out e7.out (by omega) (by omega) (by omega) (fun x hx=>(Wq C E W x (by omega)).1 (by rw[<-v3.out];exact hx)) (by omega) k3.out a5.out a6.out l6.out (by rw[l5.out];exact b6.out) ql g2 H3.out t4.out rfl ?_ ?_
          ·intro px u5 x4 x5 x6 x7 x8 l7 l8 l9 m0 m1 m2 m3 m4 m5 m6 m7 m8 m9 n0 n1 n2 n3 n4 n5 n6 n7 n8 n9 o0 o1 o2 o3 o4 o5 o6 o7 o8 o9 p0 p1 p2 p3 p4 p5 p6 p7 p8 p9 q4 q5 q6 q7 q8 q9 r3 r4 r5 r6 r7 r8 r9 s0 wx hp c9 s3 s4;have x9:ah (T=(Pr.kV P ⟨C,E,z,t,g,a⟩ (a-k-1) (k+1) (lF f st rs a_ rn) (qP Rn.data.toList) px).bind (qo P ((L.drop (i+1)).map (xR W H)) ((qP Rn.data.toList).drop ((a-k-1)*(1+rn))))):=(by
            rw[a4.out,f5.out,hp];rfl:_=_)
           have s5:ah _:=c9;have s6:ah _:=s3;have s7:ah _:=s4;clear hp c9 s3 s4 a5 c8 a6 a4 f5;obtain⟨la,y8,A2,-⟩:=id s7.out;obtain⟨x0,x1,x2,x3⟩:=s6.out.small i (C,E,z,t) e7.out;dsimp only at x0 x1 x2 x3;have y4:ah (y+t=z+(k+1)*t):=(by rw[HY.out,fO,tJ];omega:_=_);go_wp2_with fail
           go_roundw
           case rel=>
            (repeat apply Exists.intro)
            refine⟨⟨k+1,Rn,lF f st rs a_ rn,px,rfl,?_,by omega,s7.out,l5.out,l6.out,?_,?_,s5.out,s6.out⟩,rfl⟩
            ·rw[<-y4.out];simp
            ·rw[x9.out,show a-(k+1)=a-k-1 by omega]
            ·rw[l3.out,show a-(k+1)=a-k-1 by omega]
           case measure=>simp[aX];omega
          ·intro px x4 x5 x6 x7 x8 l7 l8 l9 m0 m1 m2 m3 m4 m5 m6 m7 m8 m9 n0 n1 n2 n3 n4 n5 n6 n7 n8 n9 o0 o1 o2 o3 o4 o5 o6 o7 o8 o9 p0 p1 p2 p3 p4 p5 p6 p7 p8 p9 q4 q5 q6 q7 q8 q9 r3 r4 r5 r6 r7 r8 r9 s0 wx hp s8;have M:ah (T=none):=(by rw[a4.out,f5.out,hp];rfl:_=_);have c:=s8.b;rw[<-HN.out]at c;have d0:wx.cell? ⟨w.heap.size+1,0,none⟩=some (.int .i64 (W:Int)):=by simpa using(cell_of c 0).1
           have d1:wx.cell? ⟨w.heap.size+1,1,none⟩=some (.int .i64 (H:Int)):=by simpa using(cell_of c 1).1
           have d2:wx.cell? ⟨w.heap.size+1,2,none⟩=some (.slice (some ⟨gp,0,none⟩) N N):=by simpa using(cell_of c 2).1
           dsimp+zetaDelta only[Exit.then,Exit.inBlock];refine aI (v:= .tuple #[.agg #[.int .i64 (W:Int),.int .i64 (H:Int),.slice (some ⟨gp,0,none⟩) N N],.bool false]) (by simp[results,results55,go_sem,d0,d1,d2]) rfl ?_;exact⟨.inl ⟨M.out,_,rfl⟩,s8.bl⟩
        ·have v9:¬((y:Int)<(H:Int)):=by
          intro e;have h2:=HY.out;exact k4 ((j5.out k).2 (by omega))
         have f6:a-k=0:=by omega
         have M:ah (T=qo P ((L.drop (i+1)).map (xR W H)) (qP A.data.toList) pk):=(by rw[b9.out,f6,Nat.zero_mul,kG];rfl:_=_)
         have y5:ah (A.size=lG D K W H (L.drop (i+1))):=(by rw[O.out,f6,Nat.zero_mul,fF]:_=_);clear f6;go_wp2_with fail
         go_roundw
         case rel=>exact⟨i+1,A,pk,rfl,by go_num,by omega,M.out,y5.out,k3.out,u.out⟩
         case measure=>simp[aX];omega
     ·have y6:i=n:=by omega
      have M:ah (T=some dM):=(by rw[HR.out,y6,e3.out,List.drop_length];rfl:_=_)
      clear HR b3;obtain⟨⟨i0,i1,i2⟩,⟨r0,r1,r2⟩,f0,f1,f2⟩:=l.out.img HN.out;have d:ah _:=l.out.ret;rw[<-HN.out]at d;go_wp2_with fail
      revert d;generalize World.setCell _ _ _=w9;intro d;have c:=d.out.b;rw[<-HN.out]at c;have d0:w9.cell? ⟨w.heap.size+1,0,none⟩=some (.int .i64 (W:Int)):=by simpa using(cell_of c 0).1
      have d1:w9.cell? ⟨w.heap.size+1,1,none⟩=some (.int .i64 (H:Int)):=by simpa using(cell_of c 1).1
      have d2:w9.cell? ⟨w.heap.size+1,2,none⟩=some (.slice (some ⟨gp,0,none⟩) N N):=by simpa using(cell_of c 2).1
      clear c;refine aI (v:= .tuple #[.agg #[.int .i64 (W:Int),.int .i64 (H:Int),.slice (some ⟨gp,0,none⟩) N N],.bool true]) (by simp[results,results55,go_sem,d0,d1,d2]) rfl ?_;exact⟨.inr ⟨dM,gp,M.out,rfl,d.out.x,by have:=h9.out;omega⟩,d.out.bl⟩
end h_
end Go.Proofs.YtephkcdbnogdhaaGreatDoor
