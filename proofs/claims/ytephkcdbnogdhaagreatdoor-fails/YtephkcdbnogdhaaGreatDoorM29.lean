import Derived.Test.YtephkcdbnogdhaaGreatDoorM26
set_option linter.unusedVariables false
set_option maxHeartbeats 40000000
set_option maxRecDepth 10000
namespace Go.Proofs.YtephkcdbnogdhaaGreatDoor
open Go.Proofs.Tryz
open Go renaming World->af,Value->ay,Calls->aF,TypeId->aY,Addr->bP
open Go.RowKit renaming Hid->ah,Below->aJ,intOf->aX
namespace Pr
open Go.RowKit Rf
theorem Uw{w:af}{base g N cap a:Nat}{L:List Nat}(h:w.ownsRow base 5 1 (.slice (some ⟨g,0,none⟩) N cap) N (kK L))(b:L.length=N)(c:a<=N):kM w g 0 (L.take a):=by intro i hi;simp at hi;rw[fF,h.cellAt i (by omega)];simp[kK,List.getD_eq_getElem?_getD,List.getElem?_take_of_lt (show i<a by omega),List.getElem?_eq_getElem (show i<L.length by omega)]
theorem Ux{w:af}{base g N cap a:Nat}{L:List Nat}(h:w.ownsRow base 5 1 (.slice (some ⟨g,0,none⟩) N cap) N (kK L))(b:L.length=N)(c:a<=N):kM w g a (L.drop a):=by intro i hi;simp at hi;rw[h.cellAt (a+i) (by omega)];simp[kK,List.getD_eq_getElem?_getD,List.getElem?_drop,List.getElem?_eq_getElem (show a+i<L.length by omega)]
theorem aa6(tb:Src)(rb:Nat)(s:ByteArray)(pos:Nat)(w:af)(h:Rd w tb rb s pos)(C:jk w)(hs:s.size<=140737488354000)(D:¬tb.F 6)(E:6≠rb)(G:6<w.heap.size):
 aF prog 173 #[.pointer (some ⟨rb,0,none⟩)] w fun e w'=>
  (∃U V p k,(∀aN most out,yx s aN most ⟨⟨pos,false⟩,out⟩=gm s aN most (bJ U).cs (bJ V).cs (8*s.size+1) ⟨⟨p,false⟩,out⟩)/\Fit U/\Fit V/\U.length<=286/\e= .returned (.tuple #[.pointer (some ⟨k,0,none⟩),.nilIface])/\mX w' k U V/\Rd w' tb rb s p/\RF tb rb w w')\/
  ((∃T a,e= .returned (.tuple #[.pointer none,.iface T (.pointer (some a))])/\dO tb w' T a (∀aN most out,(yx s aN most ⟨⟨pos,false⟩,out⟩).st.dA=true))/\qc w' tb rb s/\RF tb rb w w'):=by
 go_enter func173,ntmps173
 go_wp2_with fail
 refine(Ut tb rb s pos _ h hs).mono ?_;rintro e w1 (⟨a,b,n,c1,c2,c3,c4,c5,c6,c7,rfl,c8,c9⟩|⟨⟨T,a,rfl,c1⟩,c3,c4⟩);rotate_left
 ·go_wp2_with fail
  go_ret2;exact .inr ⟨⟨T,a,rfl,c1.imp (fun c1 aN most out=>adb s aN most _ c1)⟩,c3,c4⟩
 have W:ah _:=c1;have r:jk w1:=C.over (c9.block _ G D E);have t:=ade s n ⟨pos+14,false⟩;have f:=aaU s n ⟨pos+14,false⟩;clear c1;go_wp2_with fail
 refine(aa0 tb rb s (pos+14) n _ c8 r hs c7 D E (bu G c9.size)).mono ?_;rintro e w2 (⟨k,p1,d1,d2,rfl,d3,d4,d5⟩|⟨⟨T,x,rfl,d1⟩,d3,d4⟩);rotate_left
 ·go_wp2_with fail
  go_ret2;exact .inr ⟨⟨T,x,rfl,d1.imp (fun d1 aN most out=>Ye s aN most _ (by dsimp only;rw[W.out];exact d1))⟩,d3,c9.trans d4⟩
 have H:ah (∀a b,yc s a b n ⟨pos+14,false⟩=gV s (a+b) (bJ (NI s n ⟨pos+14,false⟩).1).cs (a+b+1) [] ⟨p1,false⟩):=fun a b=>by have m:yc s a b n ⟨pos+14,false⟩=gV s (a+b) (bJ (NI s n ⟨pos+14,false⟩).1).cs (a+b+1) [] (yu (bJ (NI s n ⟨pos+14,false⟩).1).nZ (NI s n ⟨pos+14,false⟩).2):=rfl;rw[m,uh _ f];unfold yu;rw[aC d2];have u:=gY Prod.snd d1;dsimp only at u;rw[u]
 have X:kN (NI s n ⟨pos+14,false⟩).1 16<=32768:=by rw[Cb _ f];omega
 clear d1 d2;generalize (NI s n ⟨pos+14,false⟩).1=SM at*;have Y:(a:Int)+(b:Int)=((a+b:Nat):Int):=by omega
 have q:a+b<=320:=by omega
 obtain⟨N,Z⟩:∃N,N=a+b:=⟨_,rfl⟩;rw[<-Z]at Y q;have HN:ah (N=a+b):=Z;have I:a<=N:=by omega
 have a5:N-a<=30:=by omega
 clear Z;go_wp2_with fail
 refine(aa3 tb rb k s p1 N SM _ d4 d3 t f X hs q).mono ?_;rintro e w3 (⟨L,p2,g,cap,m,u,J,rfl,y,e5,e6⟩|⟨⟨T,x,rfl,m⟩,J,y⟩);rotate_left
 ·go_wp2_with fail
  go_ret2;refine .inr ⟨⟨T,x,rfl,m.imp (fun m aN most out=> ?_)⟩,J,(c9.trans d5).trans y⟩;rw[Fg];dsimp only;rw[W.out];dsimp only;refine Bh _ _ _ _ _ _ _ _ ?_;rw[H.out a b,<-HN.out];exact m
 have HO:ah (∀aN most out,yx s aN most ⟨⟨pos,false⟩,out⟩=zY s aN most a b out L ⟨p2,false⟩):=fun aN most out=>by rw[Fg];dsimp only;rw[W.out];dsimp only;rw[H.out a b,<-HN.out,m]
 clear m;have K:(L.take a).length=a:=by simp;omega
 have M:(L.drop a).length=N-a:=by simp;omega
 have j:∀x∈L.take a,x<=15:=fun x hx=>J x (List.mem_of_mem_take hx);have l:∀x∈L.drop a,x<=15:=fun x hx=>J x (List.mem_of_mem_drop hx);have z:=Uw y u I;have A:=Ux y u I;have O:=(y.lt g rfl).2;have a3:N<=cap:=by
  rcases y.2 with⟨h,_⟩|⟨g',a4,cur,h,_,_,h2,_⟩
  ·cases h
  ·injection h with _ _ h3;omega
 have P:=(c9.trans d5).trans e6;have HW:ah (rO a L=false↔Yj (L.take a) (L.drop a)):=Yk a L (by omega) (by omega) J;have Q:ah (L.length=a+b):=(by rw[u];exact HN.out:_=_);clear u y;by_cases c:Yj (L.take a) (L.drop a)
 ·have d:=aa4 g 0 cap g a (cap-a) (L.take a) (L.drop a) w3.drew (by exact z) (by omega) (by omega) j (by exact A) (by omega) l c;have R:=Aq g 0 cap g a (cap-a) (L.take a) (L.drop a) w3.drew.drew (by exact z) (by exact O) (by omega) j (by exact A) (by exact O) (by omega) l;rw[K,M]at d R;have a0:Fit (L.take a):=⟨by omega,j,We _ j (by rcases c.1 with h|h<;>omega),by omega⟩;have a1:Fit (L.drop a):=⟨by omega,l,We _ l c.2.2,by omega⟩;have B:ah (rO a L=false):=HW.out.2 c;clear c;go_upto_region 10 with fail
  go_cut [10] (fun v wx=>v= .nilIface/\wx=w3.drew)
  case first=>
   go_region_with ((go_at_call 204;refine d.mono ?_;rintro e wz ⟨rfl,rfl⟩))
   all_goals
    go_wp2_with fail
    go_meet
    case rel=>exact⟨rfl,rfl⟩
  case rest=>
   obtain⟨rfl,rfl⟩:=hcut;go_upto_region 13 with fail
   go_cut [2,3] (fun v v3 wx=>(∃k,v= .pointer (some ⟨k,0,none⟩)/\mX wx k (L.take a) (L.drop a))/\v3= .nilIface/\aJ w3.heap.size w3 wx)
   case first=>
    go_region_with ((go_at_call 197;refine R.mono ?_;rintro e wz ⟨⟨kk,rfl,t1,t2⟩,i⟩))
    all_goals
     go_wp2_with fail
     go_meet
     case rel=>exact⟨⟨kk,rfl,t1⟩,rfl,⟨i.os,i.tape,i.output,i.size,i.block⟩⟩
   case rest=>
    obtain⟨⟨kk,rfl,t1⟩,rfl,i⟩:=hcut;have S:Rd wc tb rb s p2:=e5.grow (fun k hk=>i.block k hk);have a2:RF tb rb w wc:=P.trans ⟨i.os,i.tape,i.output,i.size,fun k hk _ _=>i.block k hk⟩;go_wp2_with fail
    go_ret2;exact .inl ⟨L.take a,L.drop a,p2,kk,fun aN most out=>by rw[HO.out,Vw s aN most a b out L _ rfl Q.out B.out],a0,a1,by omega,rfl,t1,S,a2⟩
 ·have d:=aa5 g 0 cap g a (cap-a) (L.take a) (L.drop a) w3.drew (by exact z) (by omega) (by omega) j (by exact A) (by omega) l c;rw[K,M]at d;have B:ah (rO a L=true):=(by
   cases hw:rO a L with
   |true=>rfl
   |false=>exact absurd (HW.out.1 hw) c:_=_)
  clear c;go_upto_region 10 with fail
  go_cut [10] (fun v wx=>(∃x,v= .iface 142 (.pointer (some x)))/\qc wx tb rb s/\RF tb rb w wx)
  case first=>
   go_region_with ((go_at_call 204;refine d.mono ?_;rintro e wz ⟨⟨x,rfl⟩,o,rfl⟩))
   all_goals
    go_wp2_with fail
    go_meet
    case rel=>exact⟨⟨x,rfl⟩,qc.alloc (qc.drew e5.Ag) _,P.drew.alloc _⟩
  case rest=>
   obtain⟨⟨x,rfl⟩,g1,g2⟩:=hcut;go_wp2_with fail
   go_ret2;exact .inr ⟨⟨_,x,rfl,dO.ve (fun aN most out=>by rw[HO.out,Gg s aN most a b out L _ rfl Q.out B.out])⟩,g1,g2⟩
def CG(w:af)(tb:Src)(rb:Nat):Nat:=(match w.cell? ⟨rb,3,none⟩with
 |some (.int _ n)=>8*n.toNat
 |_=>0)-Du w rb-8*tb.z
theorem zk{w:af}{tb:Src}{rb:Nat}{s:ByteArray}{pos:Nat}(h:Rd w tb rb s pos):CG w tb rb=pos:=by
 obtain⟨c,b,h⟩:=h;have a:=Dv h;obtain⟨t,d,e,h3,f,g,h6⟩:=h;have d3:w.cell? ⟨rb,3,none⟩=some (.int .i64 ((t+tb.z:Nat):Int)):=by simpa using(cell_of h6 3).1
 unfold CG;rw[d3,a];simp only[Int.toNat_natCast];omega
theorem Uz(y:Nat):(y<256/\jF y=(1,y,0))\/(y=256/\jF y=(2,0,0))\/(257<=y/\y<=285/\jF y=(3,ja y))\/(285<y/\jF y=(0,0,0)):=by
 by_cases a:y<256
 ·exact .inl ⟨a,by unfold jF;rw[aC a]⟩
 ·by_cases b:y=256
  ·exact .inr (.inl ⟨b,by unfold jF;rw[au a,aC b]⟩)
  ·by_cases h3:y<=285
   ·exact .inr (.inr (.inl ⟨by omega,h3,PL y (by omega) h3⟩))
   ·exact .inr (.inr (.inr ⟨by omega,by unfold jF;rw[au a,au b,au (by omega),au (by omega),au (by omega)]⟩))
theorem uU(S:jV)(A:sG)(s:ByteArray)(aN most O:Nat)(p k:List Nat)(u:US)(w:af)(hP:wZ S A.base)(h:UP S w A s aN most u)(hT:mX w O p k)(P:Fit p)(hB:Fit k)(hs:s.size<=140737488354000)(hm:most<=16777216)(V:1<=aN)(W:aN<=32768):
 aF prog 172 #[.pointer (some ⟨A.ub,0,none⟩),.pointer (some ⟨O,0,none⟩)] w fun e w'=>Res S A s aN most w (gm s aN most (bJ p).cs (bJ k).cs (8*s.size+1) u) e w':=by
 obtain⟨R,I⟩:∃R,R=gm s aN most (bJ p).cs (bJ k).cs (8*s.size+1) u:=⟨_,rfl⟩;rw[<-I];have b6:ah _:=I;clear I;go_enter func172,ntmps172
 go_wp2_with fail
 go_loopw [6] (fun _ wr=> ∃(f:Nat) (t:US),R=gm s aN most (bJ p).cs (bJ k).cs f t/\8*s.size-t.st.pos<f/\UP S wr A s aN most t/\PE A.base w wr) (fun _ wr=>8*s.size-CG wr A.tb A.rb)
 case atStart=>exact⟨8*s.size+1,u,b6.out,by omega,h,PE.refl _ _⟩
 case round=>
  obtain⟨f,t,hR,hf,X,l⟩:=hrel;have F:=X.facts.1;obtain⟨⟨J,dA⟩,d⟩:=t;dsimp only at F hf;subst F;obtain⟨r,b7⟩:∃r,f=r+1:=⟨f-1,by omega⟩;subst b7;have Q:ah _:=hR;clear hR;obtain⟨Y,kb,t1,t2,t3⟩:=hT.pe l;have b8:mX wr O p k:=hT.pe l;obtain⟨c0,_,_,_⟩:=X.cells;obtain⟨_,Z,f3⟩:=X.facts;dsimp only at Z f3;have G:ah (CG wr A.tb A.rb=J):=zk Z;have a0:wr.cell? ⟨O,0,none⟩=some (.pointer (some ⟨Y,0,none⟩)):=by simpa using(cell_of t1 0).1
  have o1:∀o:Obj,(wr.alloc o).cell? ⟨O,0,none⟩=some (.pointer (some ⟨Y,0,none⟩)):=fun o=>Er.dm a0 o;have o2:∀o:Obj,(wr.alloc o).cell? ⟨A.ub,0,none⟩=some (.pointer (some ⟨A.rb,0,none⟩)):=fun o=>Er.dm c0 o;have i:=Z.new (ag wr.heap.size);have a1:vF (wr.alloc (.cells #[.int .u8 0,.int .i64 0,.int .u64 0] 314)).drew Y jF p:=t2.iU (w':=wr.alloc (.cells #[.int .u8 0,.int .i64 0,.int .u64 0] 314)) (fun b hb=>alloc_old hb);have a2:Rd (wr.alloc (.cells #[.int .u8 0,.int .i64 0,.int .u64 0] 314)).drew A.tb A.rb s J:=(Z.alloc _).drew;have a3:(wr.alloc (.cells #[.int .u8 0,.int .i64 0,.int .u64 0] 314)).drew.heap[wr.heap.size]?=some (.cells #[.int .u8 0,.int .i64 0,.int .u64 0] 314 (0,0)):=jY wr _ _ rfl;have a4:RF A.tb A.rb wr (wr.alloc (.cells #[.int .u8 0,.int .i64 0,.int .u64 0] 314)).drew:=((RF.refl _ _ wr).alloc _).drew;have a5:RF A.tb A.rb wr wr.drew:=(RF.refl _ _ wr).drew;clear t1 t3;go_upto_region 1 with fail
  go_cut [5,6] (fun v10 v8 wx=> ∃(m:Nat×Nat×Nat) (v:ay) (b:Nat),v8=v/\v10= .pointer (some ⟨b,0,none⟩)/\rY wx b m/\rE A.tb A.rb s (bJ p).cs J jF wr m v wx)
  case first=>
   go_region_with (first
    |(go_at_call 198;refine(zS Y A.tb A.rb p s J (wr.alloc (.cells #[.int .u8 0,.int .i64 0,.int .u64 0] 314)).drew jF a1 a2 hs P.len P.le P.Di).mono ?_;rintro e w3 ⟨m,v,rfl,x⟩;obtain⟨zz,z0,z1,z2,y0,y1,y2⟩:=Lp x.rf a3 i.2.1 i.2.2;replace x:=rE.from a4 x)
    |(go_at_call 198;refine(zS Y A.tb A.rb p s J _ jF (by exact t2) (by exact Z.drew) hs P.len P.le P.Di).mono ?_;rintro e w3 ⟨m,v,rfl,x⟩;replace x:=rE.from a5 x))
   all_goals
    go_wp2_with fail
    go_meet
    case rel=>first
     |exact⟨m,v,_,rfl,rfl,jY w3 _ _ rfl,x.alloc _⟩
     |exact⟨m,v,_,rfl,rfl,(bG (bG (bG zz 0 _) 1 _) 2 _).trans (by simp),((x.set (ag _) i.1 i.2.1 i.2.2 zz (by decide) 0 _).set (ag _) i.1 i.2.1 i.2.2 (bG zz 0 _) (by decide) 1 _).set (ag _) i.1 i.2.1 i.2.2 (bG (bG zz 0 _) 1 _) (by decide) 2 _⟩
  case rest=>
   obtain⟨lm,v,b,rfl,rfl,a6,b9⟩:=hcut;rcases b9 with⟨y,n,K,a7,rfl,x,g2⟩|⟨c7,⟨T,a,rfl,g0⟩,x,g2⟩;rotate_left
   ·have H:=X.Ag x g2;have HW:dO A.tb wc T a (Stop S R):=g0.imp (fun g0=> .inl (by rw[Q.out,JP s aN most _ _ r _ rfl g0];exact g0));clear g0 a6;go_wp2_with fail
    go_ret;exact .inr ⟨⟨T,a,rfl,HW⟩,H.1,l.trans H.2⟩
   ·have g:ah _:=K;have c3:J+1<=n:=by
     have:=JU s (bJ p).cs ⟨J,false⟩;rw[K]at this;rcases this with h|h
     ·cases h
     ·exact h
    have a8:ah _:=a7;clear K a7;have a9:ah _:=Uz y;obtain⟨B,q⟩:=X.rd n x g2;have c4:=b8.pe q;have c6:=x.AU;obtain⟨m0,m1,m2⟩:=a6.c;clear a1 a2 a3 a4 a5 o1 o2 a0 c0 t2;rcases a9.out with⟨D,E⟩|⟨D,E⟩|⟨D,b0,E⟩|⟨D,E⟩;all_goals rw[<-a8.out]at E
    ·subst E;have b1:(y:Int)=(((UInt8.ofNat y).toNat:Nat):Int):=by simp;omega
     have z:ah (R=gm s aN most (bJ p).cs (bJ k).cs r (mQ most (UInt8.ofNat y) ⟨⟨n,false⟩,d⟩)):=(by rw[Q.out,JQ s aN most _ _ r _ rfl (by rw[g.out]) (by rw[g.out];exact D),g.out]:_=_)
     have L:=Uo S A s aN most ⟨⟨n,false⟩,d⟩ (UInt8.ofNat y) (y:Int) b1 wc hP B hm V W;have b2:ah ((mQ most (UInt8.ofNat y) ⟨⟨n,false⟩,d⟩).st.pos=n):=BV most _ _;clear b1;go_wp2_with fail
     refine L.mono ?_;rintro e U (⟨j,rfl,C,M⟩|⟨⟨T,a,rfl,j⟩,C,M⟩)
     ·have N:ah (CG U A.tb A.rb=n):=(by have:=zk C.facts.2.1;rw[this];exact b2.out:_=_);go_wp2_with fail
      go_roundw
      case rel=>exact⟨r,_,z.out,by rw[b2.out];omega,C,l.trans (q.trans M)⟩
      case measure=>rw[N.out,G.out];omega
     ·have HW:dO A.tb U T a (Stop S R):=j.imp (fun j=>j.mono (fun j=>by rw[z.out,wG _ _ _ _ _ _ _ j];exact j) (by rw[z.out];exact zQ s aN most _ _ _ _));clear j;go_wp2_with fail
      go_ret;exact .inr ⟨⟨T,a,rfl,HW⟩,C,l.trans (q.trans M)⟩
    ·subst E;go_wp2_with fail
     go_ret;refine .inl ⟨?_,rfl,?_,l.trans q⟩
     ·rw[Q.out,AO s aN most _ _ r _ rfl (by rw[g.out]) (by rw[g.out];exact D),g.out]
     ·rw[Q.out,AO s aN most _ _ r _ rfl (by rw[g.out]) (by rw[g.out];exact D),g.out];exact B
    ·have z:ah (R=if(iQ s aN d.length (bJ k).cs y ⟨n,false⟩).stop=true then kC s aN most (bJ k).cs y ⟨⟨n,false⟩,d⟩else gm s aN most (bJ p).cs (bJ k).cs r (kC s aN most (bJ k).cs y ⟨⟨n,false⟩,d⟩)):=(by
      rw[Q.out,QL s aN most _ _ r _ rfl (by rw[g.out]) (by rw[g.out];exact D) (by rw[g.out];exact b0),g.out]:_=_)
     have b3:=Yi S A s aN most O y p k ⟨⟨n,false⟩,d⟩ wc hP B c4 hB hs hm V W D b0;rw[<-a8.out,E]at b3;have b4:ah (n<=(kC s aN most (bJ k).cs y ⟨⟨n,false⟩,d⟩).st.pos):=(by
      have h1:=Kt s aN d.length (bJ k).cs y ⟨n,false⟩;unfold kC;split
      ·exact h1
      ·rw[Vx];exact h1:_<=_)
     subst E;go_wp2_with fail
     refine b3.mono ?_;rintro e U (⟨j,rfl,C,M⟩|⟨⟨T,a,rfl,j⟩,C,M⟩)
     ·have b5:¬(iQ s aN d.length (bJ k).cs y ⟨n,false⟩).stop=true:=fun e=>by
       have h1:=QO s aN d.length (bJ k).cs y ⟨n,false⟩ e;have h2:=zO (most:=most) (u:=⟨⟨n,false⟩,d⟩) h1;rw[h2]at j;cases j
      have c5:ah (R=gm s aN most (bJ p).cs (bJ k).cs r (kC s aN most (bJ k).cs y ⟨⟨n,false⟩,d⟩)):=(by rw[z.out,au b5]:_=_);have hle:=C.facts.2.1.AU;have N:ah (CG U A.tb A.rb=(kC s aN most (bJ k).cs y ⟨⟨n,false⟩,d⟩).st.pos):=zk C.facts.2.1;clear b5;go_wp2_with fail
      go_roundw
      case rel=>exact⟨r,_,c5.out,by have:=b4.out;omega,C,l.trans (q.trans M)⟩
      case measure=>rw[N.out,G.out];have:=b4.out;omega
     ·have HW:dO A.tb U T a (Stop S R):=j.imp (fun j=>by
       rw[z.out];split
       ·exact j
       ·exact j.mono (fun j=>by rw[wG _ _ _ _ _ _ _ j];exact j) (zQ s aN most _ _ _ _))
      clear j;go_wp2_with fail
      go_ret;exact .inr ⟨⟨T,a,rfl,HW⟩,C,l.trans (q.trans M)⟩
    ·subst E;go_wp2_with fail
     refine(dJ _ _).mono ?_;rintro e U ⟨rfl,rfl⟩;go_wp2_with fail
     go_ret;refine .inr ⟨⟨_,_,rfl,dO.ve (.inl ?_)⟩,B.ue.alloc _,l.trans (q.trans (PE.alloc _ _ _ B.base))⟩;rw[Q.out,Fv s aN most _ _ r _ rfl (by rw[g.out]) (by rw[g.out];exact D)]
theorem Wh:fH.length=288:=by simp[fH]
theorem aba:∀x∈fH,x<=15:=by intro x hx;simp only[fH,List.mem_map]at hx;obtain⟨i,_,rfl⟩:=hx;unfold rP;split<;>(try split)<;>omega
theorem abb:jD fH=32768:=by decide+kernel
theorem UA:jD (List.replicate 32 5)=32768:=by decide+kernel
theorem QX:∀x∈List.replicate 32 5,x<=15:=fun x hx=>by rw[gX hx];omega
theorem Wi:Fit fH:=⟨by rw[Wh];omega,aba,by rw[Cb _ aba,abb];omega,by rw[Wh];omega⟩
theorem Lr:Fit (List.replicate 32 5):=⟨by simp,QX,by rw[Cb _ QX,UA];omega,by simp⟩
theorem UP.fx{S:jV}{w:af}{A:sG}{s:ByteArray}{aN most:Nat}{u:US}(h:UP S w A s aN most u):(w.cell? ⟨A.ub,5,none⟩=some (.pointer none)\/∃a,w.cell? ⟨A.ub,5,none⟩=some (.pointer (some ⟨a,0,none⟩))/\mX w a fH (List.replicate 32 5))/\w.frozen? ⟨A.ub,5,none⟩=false:=by
 obtain⟨k,F,fx,l,m,h3,n,b,h6,o,h8,p,c,d,e,f,g,i⟩:=h;have c4:w.cell? ⟨A.ub,5,none⟩=some (.pointer fx):=by simpa using(cell_of b 5).1
 refine⟨?_,(cell_of b 5).2⟩;rcases h6 with rfl|⟨a,rfl,j⟩
 ·exact .inl c4
 ·exact .inr ⟨a,c4,j⟩
theorem UP.afn{S:jV}{w:af}{A:sG}{s:ByteArray}{aN most:Nat}{u:US}(h:UP S w A s aN most u)(b:Nat)(a:mX w b fH (List.replicate 32 5)):
 UP S (w.setCell ⟨A.ub,5,none⟩ (.pointer (some ⟨b,0,none⟩))) A s aN most u/\PE A.base w (w.setCell ⟨A.ub,5,none⟩ (.pointer (some ⟨b,0,none⟩)))/\(w.setCell ⟨A.ub,5,none⟩ (.pointer (some ⟨b,0,none⟩))).cell? ⟨A.ub,5,none⟩=some (.pointer (some ⟨b,0,none⟩)):=by
 obtain⟨v,F,fx,x,q,h3,c,d,h6,y,h8,z,l,m,g,n,o,i⟩:=h;have r:=bG d 5 (.pointer (some ⟨b,0,none⟩));have j:=q.types d (by decide) (by decide);have p:A.gb≠A.ub:=fU c.1 d (by decide);have hp:PE A.base w (w.setCell ⟨A.ub,5,none⟩ (.pointer (some ⟨b,0,none⟩))):=⟨rfl,rfl,rfl,by simp,fun k a=>aB 5 _ (by omega),fun k cur T f e t=>aB 5 _ (fun B=>by rw[B,d]at e;simp at e;rw[<-e.2.1]at t;revert t;decide)⟩;refine⟨⟨v,F,some ⟨b,0,none⟩,x,q.eF _ _ _ i j.1 j.2,h3,⟨(aB 5 _ p).trans c.1,gW c.2.1 (fun k a=>aB 5 _ (fun e=>jA c.2.1 d (by decide) (e▸a))),by simpa using c.2.2⟩,r.trans (by simp),.inr ⟨b,rfl,a.pe hp⟩,g.iJ y (fun k a=>a.elim (fun a=>aB 5 _ (h8 k a).2.2.2.2.1) (fun a=>hp.low k a)) (by simp),h8,z,l.over (hp.low _ (by omega)),m,g,n,o,i⟩,hp,by simpa using(cell_of r 5).1⟩
theorem UP.afI{S:jV}{w:af}{A:sG}{s:ByteArray}{aN most:Nat}{u:US}(h:UP S w A s aN most u):w.frozen? ⟨A.ub,3,none⟩=false:=by obtain⟨i,F,fx,j,k,h3,l,a,h6,m,h8,n,b,c,d,e,f,g⟩:=h;exact(cell_of a 3).2
theorem UP.aeG{S:jV}{w:af}{A:sG}{s:ByteArray}{aN most:Nat}{u:US}(h:UP S w A s aN most u):
 UP S (w.setCell ⟨A.ub,3,none⟩ (.bool true)) ⟨A.tb,A.rb,A.gb,A.ub,true⟩ s aN most u/\PE A.base w (w.setCell ⟨A.ub,3,none⟩ (.bool true)):=by
 obtain⟨r,F,fx,t,p,h3,b,c,h6,v,h8,x,j,l,d,m,n,g⟩:=h;have y:=bG c 3 (.bool true);have i:=p.types c (by decide) (by decide);have o:A.gb≠A.ub:=fU b.1 c (by decide);have hp:PE A.base w (w.setCell ⟨A.ub,3,none⟩ (.bool true)):=⟨rfl,rfl,rfl,by simp,fun k a=>aB 3 _ (by omega),fun k cur T f e q=>aB 3 _ (fun z=>by rw[z,c]at e;simp at e;rw[<-e.2.1]at q;revert q;decide)⟩;exact⟨⟨r,F,fx,t,p.eF _ _ _ g i.1 i.2,h3,⟨(aB 3 _ o).trans b.1,gW b.2.1 (fun k a=>aB 3 _ (fun e=>jA b.2.1 c (by decide) (e▸a))),by simpa using b.2.2⟩,y.trans (by simp),h6.imp id (fun⟨B,e,C⟩=>⟨B,e,C.pe hp⟩),d.iJ v (fun k a=>a.elim (fun a=>aB 3 _ (h8 k a).2.2.2.2.1) (fun a=>hp.low k a)) (by simp),h8,x,j.over (hp.low _ (by omega)),l,d,m,n,g⟩,hp⟩
theorem zl(S:jV)(A:sG)(s:ByteArray)(aN most:Nat)(u:US)(w:af)(r:wZ S A.base)(h:UP S w A s aN most u)(hs:s.size<=140737488354000)(hm:most<=16777216)(i:1<=aN)(j:aN<=32768):
 aF prog 135 #[.pointer (some ⟨A.ub,0,none⟩)] w fun e w'=>Res S A s aN most w (gm s aN most (bJ fH).cs (bJ (List.replicate 32 5)).cs (8*s.size+1) u) e w':=by
 obtain⟨n,o⟩:=h.fx;rcases n with c4|⟨y,c4,z⟩
 ·go_enter func135,ntmps135
  go_wp2_with fail
  refine(Nh _).mono ?_;rintro e w1 ⟨⟨k,rfl,t,E⟩,B⟩;obtain⟨l,m⟩:=h.grow B;obtain⟨b,x⟩:=l.fx;obtain⟨p,c,C⟩:=l.afn k t;have q:=t.pe c;have c41:∃v,w1.cell? ⟨A.ub,5,none⟩=some v:=by
   rcases b with h|⟨_,h,_⟩
   ·exact⟨_,h⟩
   ·exact⟨_,h⟩
  obtain⟨v4,D⟩:=c41;clear c4 o b;go_wp2_with fail
  refine(uU S A s aN most k fH (List.replicate 32 5) u _ r p q Wi Lr hs hm i j).mono ?_;rintro e w3 (⟨d,rfl,f,g⟩|⟨⟨T,a,rfl,d⟩,f,g⟩)
  ·go_wp2_with fail
   go_ret;exact .inl ⟨d,rfl,f,(m.trans c).trans g⟩
  ·go_wp2_with fail
   go_ret;exact .inr ⟨⟨T,a,rfl,d⟩,f,(m.trans c).trans g⟩
 ·go_enter func135,ntmps135
  go_wp2_with fail
  refine(uU S A s aN most y fH (List.replicate 32 5) u _ r h z Wi Lr hs hm i j).mono ?_;rintro e w3 (⟨d,rfl,f,g⟩|⟨⟨T,a,rfl,d⟩,f,g⟩)
  ·go_wp2_with fail
   go_ret;exact .inl ⟨d,rfl,f,g⟩
  ·go_wp2_with fail
   go_ret;exact .inr ⟨⟨T,a,rfl,d⟩,f,g⟩
theorem UP.order{S:jV}{w:af}{A:sG}{s:ByteArray}{aN most:Nat}{u:US}(h:UP S w A s aN most u):jk w/\¬A.tb.F 6/\6≠A.rb/\6<w.heap.size:=by have hb:=h.base;obtain⟨k,F,fx,l,m,h3,n,o,h6,p,h8,d,a,b,f,g,i,j⟩:=h;exact⟨a,fun e=>by have:=d.low _ e;have c:7<=A.tb.base:=b;omega,by omega,by omega⟩
theorem CJ(S:jV)(A:sG)(s:ByteArray)(aN most:Nat)(u:US)(w:af)(t:wZ S A.base)(h:UP S w A s aN most u)(hs:s.size<=140737488354000)(hm:most<=16777216)(i:1<=aN)(j:aN<=32768):
 aF prog 136 #[.pointer (some ⟨A.ub,0,none⟩)] w fun e w'=>Res S A s aN most w (yx s aN most u) e w':=by
 have b:=h.facts.1;obtain⟨⟨pos,dA⟩,out⟩:=u;dsimp only at b;subst b;obtain⟨c0,_,_,_⟩:=h.cells;obtain⟨_,v,_⟩:=h.facts;obtain⟨x,y,z,B⟩:=h.order;go_enter func136,ntmps136
 go_wp2_with fail
 refine(aa6 A.tb A.rb s pos _ v x hs y z B).mono ?_;rintro e w1 (⟨C,D,p,k,d,E,l,r,rfl,F,G,H⟩|⟨⟨T,a,rfl,d⟩,l,r⟩)
 ·obtain⟨m,f⟩:=h.rd p G H;have g:ah _:=d aN most out;clear d;go_wp2_with fail
  refine(uU S A s aN most k C D _ _ t m F E l hs hm i j).mono ?_;rintro e w3 (⟨n,rfl,o,q⟩|⟨⟨T,a,rfl,n⟩,o,q⟩)
  ·go_wp2_with fail
   go_ret;exact .inl ⟨by rw[g.out];exact n,rfl,by rw[g.out];exact o,f.trans q⟩
  ·go_wp2_with fail
   go_ret;exact .inr ⟨⟨T,a,rfl,by rw[g.out];exact n⟩,o,f.trans q⟩
 ·have c:=h.Ag l r;have g:dO A.tb w1 T a (Stop S (yx s aN most ⟨⟨pos,false⟩,out⟩)):=d.imp (fun d=> .inl (d aN most out));clear d;go_wp2_with fail
  go_ret;exact .inr ⟨⟨T,a,rfl,g⟩,c.1,c.2⟩
theorem uV(s:ByteArray)(aN most y:Nat)(u:US)(h:u.st.dA=true):(lT s aN most y u).st.dA=true:=by unfold lT;rw[aC h];exact h
theorem NL(S:jV)(A:sG)(s:ByteArray)(aN most:Nat)(u:US)(w:af)(h:UP S w A s aN most u)(hm:most<=16777216):
 aF prog 138 #[.pointer (some ⟨A.ub,0,none⟩),.int .i64 0] w fun e w'=>((A.al=true->most<=u.out.length)/\e= .returned .nilIface/\w'=w)\/((∃T a,e= .returned (.iface T (.pointer (some a)))/\dO A.tb w' T a (rD A most u))/\UE w' A s/\PE A.base w w'):=Hw S A s aN most 0 u w h hm (by omega)
theorem adi(S:jV)(A:sG)(s:ByteArray)(aN most pos:Nat)(out:List UInt8)(w:af)(B:wZ S A.base)(h:UP S w A s aN most ⟨⟨pos,false⟩,out⟩)(hs:s.size<=140737488354000)(hm:most<=16777216)(p:1<=aN)(q:aN<=32768)(o:bH s pos 1=0):
 aF prog 105 #[.pointer (some ⟨A.ub,0,none⟩)] w fun e w'=>
  ((jq s aN most ⟨⟨pos,false⟩,out⟩).1=0/\pos+3<=8*s.size/\(jq s aN most ⟨⟨pos,false⟩,out⟩).2.st.dA=false/\pos+3<=(jq s aN most ⟨⟨pos,false⟩,out⟩).2.st.pos/\e= .returned (.tuple #[.bool false,.nilIface])/\UP S w' A s aN most (jq s aN most ⟨⟨pos,false⟩,out⟩).2/\PE A.base w w')\/
  ((∃b T a,e= .returned (.tuple #[.bool b,.iface T (.pointer (some a))])/\dO A.tb w' T a (Stop S (jq s aN most ⟨⟨pos,false⟩,out⟩).2))/\UE w' A s/\PE A.base w w'):=by
 obtain⟨c0,_,_,_⟩:=h.cells;obtain⟨_,r,_⟩:=h.facts;dsimp only at r;have C:=xy A.tb A.rb s pos w r hs;have D:=zD s pos;rw[o]at C D;have M:ah _:=D;clear o D;go_enter func105,ntmps105
 go_wp2_with fail
 refine C.mono ?_;rintro e w1 (⟨v,J,rfl,E,F⟩|⟨⟨T,a,rfl,v⟩,E,F⟩);rotate_left
 ·have g:=h.Ag E F;have m:dO A.tb w1 T a (Stop S (jq s aN most ⟨⟨pos,false⟩,out⟩).2):=v.imp (fun v=> .inl (uV _ _ _ _ _ (nK s 2 _ v)));clear v;go_wp2_with fail
  go_ret2;exact .inr ⟨⟨_,T,a,rfl,m⟩,g.1,g.2⟩
 obtain⟨n,x⟩:=h.rd _ E F;have K:ah (gy s ⟨pos,false⟩=(0,⟨pos+1,false⟩)):=M.out J;clear c0 r C;obtain⟨c0,_,_,_⟩:=n.cells;obtain⟨_,r,_⟩:=n.facts;dsimp only at r;go_wp2_with fail
 refine(fM A.tb A.rb s (pos+1) 2 _ r hs (by omega)).mono ?_;rintro e w2 (⟨z,L,rfl,G,H⟩|⟨⟨T,a,rfl,z⟩,G,H⟩);rotate_left
 ·have g:=n.Ag G H;have m:dO A.tb w2 T a (Stop S (jq s aN most ⟨⟨pos,false⟩,out⟩).2):=z.imp (fun z=>(.inl (by
   unfold jq;dsimp only;rw[K.out];exact uV _ _ _ _ _ z)))
  clear z;go_wp2_with fail
  go_ret2;exact .inr ⟨⟨_,T,a,rfl,m⟩,g.1,x.trans g.2⟩
 obtain⟨i,I⟩:=n.rd _ G H;have N:ah (bI s 2 ⟨pos+1,false⟩=(bH s (pos+1) 2,⟨pos+1+2,false⟩)):=jc s 2 (pos+1) L;have O:bH s (pos+1) 2<4:=fQ s (pos+1) 2;generalize bH s (pos+1) 2=y at*;have c:ah (jq s aN most ⟨⟨pos,false⟩,out⟩=(0,lT s aN most y ⟨⟨pos+1+2,false⟩,out⟩)):=(by unfold jq;dsimp only;rw[K.out];dsimp only;rw[N.out]:_=_)
 have t:ah (pos+1+2<=(lT s aN most y ⟨⟨pos+1+2,false⟩,out⟩).st.pos):=Gh s aN most y ⟨⟨pos+1+2,false⟩,out⟩;have u:ah (pos+3<=8*s.size):=(by omega:_<=_);have d:=x.trans I;clear c0 r J L;rcases(by omega:y=0\/y=1\/y=2\/y=3)with rfl|rfl|rfl|rfl
 ·have j:ah (lT s aN most 0 ⟨⟨pos+1+2,false⟩,out⟩=iF s most ⟨⟨pos+1+2,false⟩,out⟩):=rfl;go_wp2_with fail
  refine(Au S A s aN most _ false _ B i hs hm p q).mono ?_;rintro e w3 (⟨f,rfl,k,l⟩|⟨⟨T,a,rfl,f⟩,k,l⟩)
  ·go_wp2_with fail
   go_ret2;exact .inl ⟨by rw[c.out],u.out,by rw[c.out,j.out];exact f,by rw[c.out];have:=t.out;omega,rfl,by rw[c.out,j.out];exact k,d.trans l⟩
  ·have m:dO A.tb w3 T a (Stop S (jq s aN most ⟨⟨pos,false⟩,out⟩).2):=f.imp (fun f=>by rw[c.out,j.out];exact f.elim id (fun e=>by cases e.1));clear f;go_wp2_with fail
   go_ret2;exact .inr ⟨⟨_,T,a,rfl,m⟩,k,d.trans l⟩
 ·have j:ah (lT s aN most 1 ⟨⟨pos+1+2,false⟩,out⟩=gm s aN most (bJ fH).cs (bJ (List.replicate 32 5)).cs (8*s.size+1) ⟨⟨pos+1+2,false⟩,out⟩):=rfl;go_wp2_with fail
  refine(zl S A s aN most _ _ B i hs hm p q).mono ?_;rintro e w3 (⟨f,rfl,k,l⟩|⟨⟨T,a,rfl,f⟩,k,l⟩)
  ·go_wp2_with fail
   go_ret2;exact .inl ⟨by rw[c.out],u.out,by rw[c.out,j.out];exact f,by rw[c.out];have:=t.out;omega,rfl,by rw[c.out,j.out];exact k,d.trans l⟩
  ·have m:dO A.tb w3 T a (Stop S (jq s aN most ⟨⟨pos,false⟩,out⟩).2):=f.imp (fun f=>by rw[c.out,j.out];exact f);clear f;go_wp2_with fail
   go_ret2;exact .inr ⟨⟨_,T,a,rfl,m⟩,k,d.trans l⟩
 ·have j:ah (lT s aN most 2 ⟨⟨pos+1+2,false⟩,out⟩=yx s aN most ⟨⟨pos+1+2,false⟩,out⟩):=rfl;go_wp2_with fail
  refine(CJ S A s aN most _ _ B i hs hm p q).mono ?_;rintro e w3 (⟨f,rfl,k,l⟩|⟨⟨T,a,rfl,f⟩,k,l⟩)
  ·go_wp2_with fail
   go_ret2;exact .inl ⟨by rw[c.out],u.out,by rw[c.out,j.out];exact f,by rw[c.out];have:=t.out;omega,rfl,by rw[c.out,j.out];exact k,d.trans l⟩
  ·have m:dO A.tb w3 T a (Stop S (jq s aN most ⟨⟨pos,false⟩,out⟩).2):=f.imp (fun f=>by rw[c.out,j.out];exact f);clear f;go_wp2_with fail
   go_ret2;exact .inr ⟨⟨_,T,a,rfl,m⟩,k,d.trans l⟩
 ·go_wp2_with fail
  refine(dJ _ _).mono ?_;rintro e w3 ⟨rfl,rfl⟩;go_wp2_with fail
  go_ret2;exact .inr ⟨⟨_,_,_,rfl,dO.ve (.inl (by rw[c.out];rfl))⟩,i.ue.alloc _,d.trans (PE.alloc _ _ _ i.base)⟩
theorem adk(S:jV)(A:sG)(s:ByteArray)(aN most pos:Nat)(out:List UInt8)(w:af)(H:wZ S A.base)(h:UP S w A s aN most ⟨⟨pos,false⟩,out⟩)(hs:s.size<=140737488354000)(hm:most<=16777216)(q:1<=aN)(r:aN<=32768)(p:bH s pos 1=1):
 aF prog 105 #[.pointer (some ⟨A.ub,0,none⟩)] w fun e w'=>
  ((jq s aN most ⟨⟨pos,false⟩,out⟩).1=1/\pos+3<=8*s.size/\(jq s aN most ⟨⟨pos,false⟩,out⟩).2.st.dA=false/\pos+3<=(jq s aN most ⟨⟨pos,false⟩,out⟩).2.st.pos/\e= .returned (.tuple #[.bool true,.nilIface])/\UP S w' A s aN most (jq s aN most ⟨⟨pos,false⟩,out⟩).2/\PE A.base w w'/\(A.al=true->most<=(jq s aN most ⟨⟨pos,false⟩,out⟩).2.out.length))\/
  ((∃b T a,e= .returned (.tuple #[.bool b,.iface T (.pointer (some a))])/\dO A.tb w' T a (Stop S (jq s aN most ⟨⟨pos,false⟩,out⟩).2\/rD A most (jq s aN most ⟨⟨pos,false⟩,out⟩).2))/\UE w' A s/\PE A.base w w'):=by
 obtain⟨c0,_,_,_⟩:=h.cells;obtain⟨_,t,_⟩:=h.facts;dsimp only at t;have I:=xy A.tb A.rb s pos w t hs;have J:=zD s pos;rw[p]at I J;have U:ah _:=J;clear p J;go_enter func105,ntmps105
 go_wp2_with fail
 refine I.mono ?_;rintro e w1 (⟨x,P,rfl,K,L⟩|⟨⟨T,a,rfl,x⟩,K,L⟩);rotate_left
 ·have i:=h.Ag K L;have k:dO A.tb w1 T a (Stop S (jq s aN most ⟨⟨pos,false⟩,out⟩).2\/rD A most (jq s aN most ⟨⟨pos,false⟩,out⟩).2):=x.imp (fun x=> .inl (.inl (uV _ _ _ _ _ (nK s 2 _ x))));clear x;go_wp2_with fail
  go_ret2;exact .inr ⟨⟨_,T,a,rfl,k⟩,i.1,i.2⟩
 obtain⟨o,z⟩:=h.rd _ K L;have Q:ah (gy s ⟨pos,false⟩=(1,⟨pos+1,false⟩)):=U.out P;clear c0 t I;obtain⟨c0,_,_,_⟩:=o.cells;obtain⟨_,t,_⟩:=o.facts;dsimp only at t;go_wp2_with fail
 refine(fM A.tb A.rb s (pos+1) 2 _ t hs (by omega)).mono ?_;rintro e w2 (⟨B,R,rfl,M,N⟩|⟨⟨T,a,rfl,B⟩,M,N⟩);rotate_left
 ·have i:=o.Ag M N;have k:dO A.tb w2 T a (Stop S (jq s aN most ⟨⟨pos,false⟩,out⟩).2\/rD A most (jq s aN most ⟨⟨pos,false⟩,out⟩).2):=B.imp (fun B=> .inl ((.inl (by
   unfold jq;dsimp only;rw[Q.out];exact uV _ _ _ _ _ B))))
  clear B;go_wp2_with fail
  go_ret2;exact .inr ⟨⟨_,T,a,rfl,k⟩,i.1,z.trans i.2⟩
 obtain⟨n,O⟩:=o.rd _ M N;have V:ah (bI s 2 ⟨pos+1,false⟩=(bH s (pos+1) 2,⟨pos+1+2,false⟩)):=jc s 2 (pos+1) R;have W:bH s (pos+1) 2<4:=fQ s (pos+1) 2;generalize bH s (pos+1) 2=y at*;have c:ah (jq s aN most ⟨⟨pos,false⟩,out⟩=(1,lT s aN most y ⟨⟨pos+1+2,false⟩,out⟩)):=(by unfold jq;dsimp only;rw[Q.out];dsimp only;rw[V.out]:_=_)
 have u:ah (pos+1+2<=(lT s aN most y ⟨⟨pos+1+2,false⟩,out⟩).st.pos):=Gh s aN most y ⟨⟨pos+1+2,false⟩,out⟩;have v:ah (pos+3<=8*s.size):=(by omega:_<=_);have d:=z.trans O;clear c0 t P R;rcases(by omega:y=0\/y=1\/y=2\/y=3)with rfl|rfl|rfl|rfl
 ·have j:ah (lT s aN most 0 ⟨⟨pos+1+2,false⟩,out⟩=iF s most ⟨⟨pos+1+2,false⟩,out⟩):=rfl;go_wp2_with fail
  refine(Au S A s aN most _ true _ H n hs hm q r).mono ?_;rintro e w3 (⟨g,rfl,l,m⟩|⟨⟨T,a,rfl,g⟩,l,m⟩)
  ·have C:=NL S A s aN most _ _ l hm;go_wp2_with fail
   refine C.mono ?_;rintro e D (⟨f,rfl,hw⟩|⟨⟨T,a,rfl,f⟩,E,F⟩)
   ·have G:ah _:=f;clear f;subst hw;go_wp2_with fail
    go_ret2;exact .inl ⟨by rw[c.out],v.out,by rw[c.out,j.out];exact g,by rw[c.out];have:=u.out;omega,rfl,by rw[c.out,j.out];exact l,d.trans m,by rw[c.out,j.out];exact G.out⟩
   ·have k:dO A.tb D T a (Stop S (jq s aN most ⟨⟨pos,false⟩,out⟩).2\/rD A most (jq s aN most ⟨⟨pos,false⟩,out⟩).2):=f.imp (fun f=> .inr (by rw[c.out,j.out];exact f));clear f;go_wp2_with fail
    go_ret2;exact .inr ⟨⟨_,T,a,rfl,k⟩,E,(d.trans m).trans F⟩
  ·have k:dO A.tb w3 T a (Stop S (jq s aN most ⟨⟨pos,false⟩,out⟩).2\/rD A most (jq s aN most ⟨⟨pos,false⟩,out⟩).2):=g.imp (fun g=>by rw[c.out,j.out];exact g.imp id And.right);clear g;go_wp2_with fail
   go_ret2;exact .inr ⟨⟨_,T,a,rfl,k⟩,l,d.trans m⟩
 ·have j:ah (lT s aN most 1 ⟨⟨pos+1+2,false⟩,out⟩=gm s aN most (bJ fH).cs (bJ (List.replicate 32 5)).cs (8*s.size+1) ⟨⟨pos+1+2,false⟩,out⟩):=rfl;go_wp2_with fail
  refine(zl S A s aN most _ _ H n hs hm q r).mono ?_;rintro e w3 (⟨g,rfl,l,m⟩|⟨⟨T,a,rfl,g⟩,l,m⟩)
  ·have C:=NL S A s aN most _ _ l hm;go_wp2_with fail
   refine C.mono ?_;rintro e D (⟨f,rfl,hw⟩|⟨⟨T,a,rfl,f⟩,E,F⟩)
   ·have G:ah _:=f;clear f;subst hw;go_wp2_with fail
    go_ret2;exact .inl ⟨by rw[c.out],v.out,by rw[c.out,j.out];exact g,by rw[c.out];have:=u.out;omega,rfl,by rw[c.out,j.out];exact l,d.trans m,by rw[c.out,j.out];exact G.out⟩
   ·have k:dO A.tb D T a (Stop S (jq s aN most ⟨⟨pos,false⟩,out⟩).2\/rD A most (jq s aN most ⟨⟨pos,false⟩,out⟩).2):=f.imp (fun f=> .inr (by rw[c.out,j.out];exact f));clear f;go_wp2_with fail
    go_ret2;exact .inr ⟨⟨_,T,a,rfl,k⟩,E,(d.trans m).trans F⟩
  ·have k:dO A.tb w3 T a (Stop S (jq s aN most ⟨⟨pos,false⟩,out⟩).2\/rD A most (jq s aN most ⟨⟨pos,false⟩,out⟩).2):=g.imp (fun g=> .inl (by rw[c.out,j.out];exact g));clear g;go_wp2_with fail
   go_ret2;exact .inr ⟨⟨_,T,a,rfl,k⟩,l,d.trans m⟩
 ·have j:ah (lT s aN most 2 ⟨⟨pos+1+2,false⟩,out⟩=yx s aN most ⟨⟨pos+1+2,false⟩,out⟩):=rfl;go_wp2_with fail
  refine(CJ S A s aN most _ _ H n hs hm q r).mono ?_;rintro e w3 (⟨g,rfl,l,m⟩|⟨⟨T,a,rfl,g⟩,l,m⟩)
  ·have C:=NL S A s aN most _ _ l hm;go_wp2_with fail
   refine C.mono ?_;rintro e D (⟨f,rfl,hw⟩|⟨⟨T,a,rfl,f⟩,E,F⟩)
   ·have G:ah _:=f;clear f;subst hw;go_wp2_with fail
    go_ret2;exact .inl ⟨by rw[c.out],v.out,by rw[c.out,j.out];exact g,by rw[c.out];have:=u.out;omega,rfl,by rw[c.out,j.out];exact l,d.trans m,by rw[c.out,j.out];exact G.out⟩
   ·have k:dO A.tb D T a (Stop S (jq s aN most ⟨⟨pos,false⟩,out⟩).2\/rD A most (jq s aN most ⟨⟨pos,false⟩,out⟩).2):=f.imp (fun f=> .inr (by rw[c.out,j.out];exact f));clear f;go_wp2_with fail
    go_ret2;exact .inr ⟨⟨_,T,a,rfl,k⟩,E,(d.trans m).trans F⟩
  ·have k:dO A.tb w3 T a (Stop S (jq s aN most ⟨⟨pos,false⟩,out⟩).2\/rD A most (jq s aN most ⟨⟨pos,false⟩,out⟩).2):=g.imp (fun g=> .inl (by rw[c.out,j.out];exact g));clear g;go_wp2_with fail
   go_ret2;exact .inr ⟨⟨_,T,a,rfl,k⟩,l,d.trans m⟩
 ·go_wp2_with fail
  refine(dJ _ _).mono ?_;rintro e w3 ⟨rfl,rfl⟩;go_wp2_with fail
  go_ret2;exact .inr ⟨⟨_,_,_,rfl,dO.ve (.inl (.inl (by rw[c.out];rfl)))⟩,n.ue.alloc _,d.trans (PE.alloc _ _ _ n.base)⟩
theorem Ym(S:jV)(A:sG)(s:ByteArray)(aN most:Nat)(u:US)(w:af)(r:wZ S A.base)(h:UP S w A s aN most u)(hs:s.size<=140737488354000)(hm:most<=16777216)(j:1<=aN)(m:aN<=32768):
 aF prog 105 #[.pointer (some ⟨A.ub,0,none⟩)] w fun e w'=>
  (∃l:Nat,l<=1/\(jq s aN most u).1=l/\u.st.pos+3<=8*s.size/\(jq s aN most u).2.st.dA=false/\u.st.pos+3<=(jq s aN most u).2.st.pos/\e= .returned (.tuple #[.bool (decide (l=1)),.nilIface])/\UP S w' A s aN most (jq s aN most u).2/\PE A.base w w'/\(l=1->A.al=true->most<=(jq s aN most u).2.out.length))\/
  ((∃b T a,e= .returned (.tuple #[.bool b,.iface T (.pointer (some a))])/\dO A.tb w' T a (Stop S (jq s aN most u).2\/(bH s u.st.pos 1=1/\rD A most (jq s aN most u).2)))/\UE w' A s/\PE A.base w w'):=by
 have c:=h.facts.1;obtain⟨⟨pos,dA⟩,out⟩:=u;dsimp only at c|-;subst c;have v:=fQ s pos 1;rcases(by omega:bH s pos 1=0\/bH s pos 1=1)with n|n
 ·refine(adi S A s aN most pos out w r h hs hm j m n).mono ?_;rintro e w' (⟨d,f,g,i,o,p,q⟩|⟨⟨b,T,a,d,f⟩,g,i⟩)
  ·exact .inl ⟨0,by omega,d,f,g,i,o,p,q,fun e=>by cases e⟩
  ·exact .inr ⟨⟨b,T,a,d,f.imp .inl⟩,g,i⟩
 ·refine(adk S A s aN most pos out w r h hs hm j m n).mono ?_;rintro e w' (⟨d,f,g,i,o,p,q,t⟩|⟨⟨b,T,a,d,f⟩,g,i⟩)
  ·exact .inl ⟨1,by omega,d,f,g,i,o,p,q,fun _=>t⟩
  ·exact .inr ⟨⟨b,T,a,d,f.imp (Or.imp id (fun k=>⟨n,k⟩))⟩,g,i⟩
def afJ(S:jV)(A:sG)(s:ByteArray)(aN most:Nat)(w:af)(U:US)(e:Ending)(w':af):Prop:=
 (U.st.dA=false/\e= .returned .nilIface/\UP S w' A s aN most U/\PE A.base w w'/\(A.al=true->most<=U.out.length))\/
 ((∃T a,e= .returned (.iface T (.pointer (some a)))/\dO A.tb w' T a (Stop S U\/rD A most U))/\UE w' A s/\PE A.base w w')
theorem adm(s:ByteArray)(aN most:Nat)(u:US)(h:u.st.dA=false)(b:u.st.pos<=8*s.size)(hb:bH s u.st.pos 1=1):(jq s aN most u).1≠0\/(jq s aN most u).2.st.dA=true:=by
 obtain⟨⟨pos,dA⟩,out⟩:=u;dsimp only at h b hb;subst h;by_cases a:pos<8*s.size
 ·refine .inl ?_;show(gy s ⟨pos,false⟩).1≠0;rw[zD s pos a,hb];exact Nat.one_ne_zero
 ·refine .inr (uV _ _ _ _ _ (nK s 2 _ ?_));exact Gl s pos a
theorem NM(unit:ByteArray)(n:Int)(T:aY)(a:bP)(w:af):
 aF prog 86 #[.string unit,.int .i64 n,.iface T (.pointer (some a))] w fun e w'=>e= .returned (.iface 214 (.pointer (some ⟨w.heap.size,0,none⟩)))/\w'=w.alloc (.cells #[.string unit,.int .i64 n,.iface T (.pointer (some a))] 216):=by
 go_enter func86,ntmps86
 go_wp2
 go_ret;exact⟨rfl,rfl⟩
theorem dO.xN{S:Src}{w:af}{T:aY}{a:bP}{P:Prop}(h:dO S w T a P)(u m:ay)(b:Nat)(hb:b=w.heap.size):dO S (w.alloc (.cells #[u,m,.iface T (.pointer (some a))] 216)) 214 ⟨b,0,none⟩ P:=by subst hb;exact h.place u m
theorem JA(S:jV)(A:sG)(s:ByteArray)(aN most:Nat)(u:US)(w:af)(Y:wZ S A.base)(h:UP S w A s aN most u)(hs:s.size<=140737488354000)(hm:most<=16777216)(F:1<=aN)(G:aN<=32768):
 aF prog 73 #[.pointer (some ⟨A.ub,0,none⟩)] w fun e w'=>afJ S A s aN most w (rQ s aN most (8*s.size+1) u) e w':=by
 obtain⟨R,k⟩:∃R,R=rQ s aN most (8*s.size+1) u:=⟨_,rfl⟩;rw[<-k];have H:ah _:=k;clear k;go_enter func73,ntmps73
 go_wp2_with fail
 go_loopw [3] (fun Z wr=> ∃(n:Int) (f:Nat) (t:US),Z= .int .i64 n/\R=rQ s aN most f t/\8*s.size-t.st.pos<f/\UP S wr A s aN most t/\PE A.base w wr) (fun _ wr=>8*s.size-CG wr A.tb A.rb)
 case atStart=>exact⟨0,8*s.size+1,u,rfl,H.out,by omega,h,PE.refl _ _⟩
 case round=>
  obtain⟨n,f,t,rfl,Q,hf,r,m⟩:=hrel;have I:ah _:=Q;clear Q;obtain⟨j,J⟩:∃j,f=j+1:=⟨f-1,by omega⟩;subst J;have c:=r.facts.1;have v:ah (CG wr A.tb A.rb=t.st.pos):=zk r.facts.2.1;go_wp2_with fail
  refine(Ym S A s aN most t _ Y r hs hm F G).mono ?_;rintro e w1 (⟨l,i,C,U,D,k5,rfl,E,V,W⟩|⟨⟨b,T,a,rfl,i⟩,U,D⟩)
  ·have K:ah _:=W;clear W;have hle:=E.facts.2.1.AU;have L:ah (CG w1 A.tb A.rb=(jq s aN most t).2.st.pos):=zk E.facts.2.1;rcases(by omega:l=0\/l=1)with rfl|rfl
   ·have y:ah (R=rQ s aN most j (jq s aN most t).2):=(by rw[I.out];exact MI s aN most j t c C:_=_);clear C;go_wp2_with fail
    go_roundw
    case rel=>exact⟨_,j,_,rfl,y.out,by omega,E,m.trans V⟩
    case measure=>rw[L.out,v.out];omega
   ·have y:ah (R=(jq s aN most t).2):=(by rw[I.out];exact Gj s aN most j t c (by rw[C];omega):_=_);clear C;go_wp2_with fail
    go_ret;exact .inl ⟨by rw[y.out];exact D,rfl,by rw[y.out];exact E,m.trans V,by rw[y.out];exact K.out (by first|exact trivial|rfl)⟩
  ·obtain⟨o,g,lf,bb,fv,x,p⟩:=U;have c0:w1.cell? ⟨A.ub,0,none⟩=some (.pointer (some ⟨A.rb,0,none⟩)):=by simpa using(cell_of p 0).1
   have X:dO A.tb w1 T a (Stop S R\/rD A most R):=i.imp (fun i=>by
    rw[I.out];by_cases M:(jq s aN most t).1=0
    ·rw[MI s aN most j t c M];rcases i with i|⟨k0,i⟩
     ·exact .inl (i.mono (fun i=>by rw[Gi _ _ _ _ _ i];exact i) (aaX s aN most j _))
     ·rcases adm s aN most t c r.facts.2.1.AU k0 with hb|hb
      ·exact absurd M hb
      ·exact .inl (.inl (by rw[Gi _ _ _ _ _ hb];exact hb))
    ·rw[Gj s aN most j t c M];exact i.imp id And.right)
   have q:A.base<=w1.heap.size:=aK r.base D.size;clear i;go_wp2_with fail
   refine(MJ A.tb A.rb s _ o hs).mono ?_;rintro e w2 ⟨⟨n2,rfl⟩,nq,d⟩;have N:UE w2 A s:=by rw[d];exact UE.drewN ⟨o,g,lf,bb,fv,x,p⟩ nq
   have O:PE A.base w1 w2:=by rw[d];exact PE.drewN _ _ _
   have P:dO A.tb w2 T a (Stop S R\/rD A most R):=by rw[d];exact X.grow (fun _ _=>rfl)
   have z:w2.heap.size=w1.heap.size:=by rw[d];rfl
   have B:ah _:=z;clear d z c0 p o X;go_wp2_with fail
   refine(NM _ _ _ _ _).mono ?_;rintro e w3 ⟨rfl,rfl⟩;go_wp2_with fail
   refine(NM _ _ _ _ _).mono ?_;rintro e w4 ⟨rfl,rfl⟩;go_wp2_with fail
   go_ret;exact .inr ⟨⟨_,_,rfl,(P.xN _ _ _ rfl).xN _ _ _ (by simp)⟩,(N.alloc _).alloc _,m.trans (D.trans (O.trans ((PE.alloc _ _ _ (by rw[B.out];exact q)).trans (PE.alloc _ _ _ (by simp;rw[B.out];omega)))))⟩
theorem UB(T:aY)(a:bP)(w:af):
 aF prog 71 #[.iface T (.pointer (some a))] w fun e w'=>e= .returned (.pointer (some ⟨w.heap.size,0,none⟩))/\w'=w.alloc (.cells #[.iface T (.pointer (some a)),.int .u32 0,.int .u64 0,.int .i64 0] 180):=by
 go_enter func71,ntmps71
 go_wp2
 go_ret;exact⟨rfl,rfl⟩
theorem abd(rb aN most:Nat)(f:Fn)(bs cs:Array ay)(w:af):
 aF prog 72 #[.pointer (some ⟨rb,0,none⟩),.int .i64 (aN:Int),.int .i64 (most:Int),.func f bs cs] w fun e w'=>e= .returned (.pointer (some ⟨w.heap.size+1,0,none⟩))/\w'=(w.alloc (.cells #[.int .i64 (aN:Int),.slice none 0 0,.int .i64 0] 231)).alloc (.cells #[.pointer (some ⟨rb,0,none⟩),.pointer (some ⟨w.heap.size,0,none⟩),.int .i64 (most:Int),.bool false,.func f bs cs,.pointer none] 185):=by
 go_enter func72,ntmps72
 go_wp2_with fail
 refine(QA aN _).mono ?_;rintro e w1 ⟨rfl,rfl⟩;go_wp2_with fail
 go_ret;exact⟨by simp,rfl⟩
theorem Rd.first{tb:Src}{s:ByteArray}{w:af}(hS:tb.Ok)(hK:tb.K w s 0)(d:tb.z=0):Rd (w.alloc (.cells #[.iface tb.T (.pointer (some tb.a)),.int .u32 0,.int .u64 0,.int .i64 0] 180)) tb w.heap.size s 0:=by have b:=hS.ke hK;have hb:=hS.hb b;refine⟨0,by omega,0,rfl,aU _,hb,hS.iJ hK (fun k c=>alloc_old (c.elim (fun c=>hS.lt b c) (fun c=>by omega))),hS,?_⟩;rw[d];exact(dR w _).1
theorem UP.start{S:jV}(tb:Src)(rb:Nat)(s:ByteArray)(aN most p:Nat)(w:af)(F:Nat->Prop)(f:Fn)(bs cs:Array ay)(h:S.fv= .func f bs cs)(b:S.Ok tb.base)(hK:S.K w [] F)(hF:∀k,F k->tb.base<=k/\¬tb.F k/\k≠rb)(i:Rd w tb rb s p)(n:jk w):
 UP S ((w.alloc (.cells #[.int .i64 (aN:Int),.slice none 0 0,.int .i64 0] 231)).alloc (.cells #[.pointer (some ⟨rb,0,none⟩),.pointer (some ⟨w.heap.size,0,none⟩),.int .i64 (most:Int),.bool false,.func f bs cs,.pointer none] 185)) ⟨tb,rb,w.heap.size,w.heap.size+1,false⟩ s aN most ⟨⟨p,false⟩,[]⟩:=by
 have o:=i.Jf;have d:tb.Ok:=by obtain⟨_,_,_,_,_,_,_,q,_⟩:=i;exact q
 have j:=d.ng;have r:w.heap.size+2=((w.alloc (.cells #[.int .i64 (aN:Int),.slice none 0 0,.int .i64 0] 231)).alloc (.cells #[.pointer (some ⟨rb,0,none⟩),.pointer (some ⟨w.heap.size,0,none⟩),.int .i64 (most:Int),.bool false,.func f bs cs,.pointer none] 185)).heap.size:=by simp
 have c:∀k,k<w.heap.size->((w.alloc (.cells #[.int .i64 (aN:Int),.slice none 0 0,.int .i64 0] 231)).alloc (.cells #[.pointer (some ⟨rb,0,none⟩),.pointer (some ⟨w.heap.size,0,none⟩),.int .i64 (most:Int),.bool false,.func f bs cs,.pointer none] 185)).heap[k]?=w.heap[k]?:=fun k a=>by rw[alloc_old (by simp;omega),alloc_old a]
 have t:((w.alloc (.cells #[.int .i64 (aN:Int),.slice none 0 0,.int .i64 0] 231)).alloc (.cells #[.pointer (some ⟨rb,0,none⟩),.pointer (some ⟨w.heap.size,0,none⟩),.int .i64 (most:Int),.bool false,.func f bs cs,.pointer none] 185)).heap[w.heap.size]?=some (.cells #[.int .i64 (aN:Int),.slice none 0 0,.int .i64 0] 231 (0,0)):=by rw[alloc_old (by simp)];exact(dR w _).1
 have m:=(dR (w.alloc (.cells #[.int .i64 (aN:Int),.slice none 0 0,.int .i64 0] 231)) (.cells #[.pointer (some ⟨rb,0,none⟩),.pointer (some ⟨w.heap.size,0,none⟩),.int .i64 (most:Int),.bool false,.func f bs cs,.pointer none] 185)).1;rw[qh]at m;generalize ((w.alloc (.cells #[.int .i64 (aN:Int),.slice none 0 0,.int .i64 0] 231)).alloc (.cells #[.pointer (some ⟨rb,0,none⟩),.pointer (some ⟨w.heap.size,0,none⟩),.int .i64 (most:Int),.bool false,.func f bs cs,.pointer none] 185))=w3 at*;have g:=b.lt hK;refine⟨.slice none 0 0,F,none,rfl,i.grow c,aU _,⟨?_,?_,?_⟩,?_,.inl rfl,b.iJ hK (fun k a=>c k (a.elim (fun a=>g k a) (fun a=>by omega))) (by omega),?_,d,n.over (c _ (by omega)),j,b,o.2.2.1,by show tb.base<=w.heap.size;omega,by show tb.base<=w.heap.size+1;omega⟩
 ·show _=some (Obj.cells #[.int .i64 (aN:Int),.slice none 0 0,.int .i64 ((0%aN:Nat):Int)] 231 (0,0));rw[Nat.zero_mod];exact t
 ·show w3.ownsRow tb.base 5 1 _ (min 0 aN) (iO [] aN);have e:iO [] aN=[]:=by simp[iO]
  rw[Nat.zero_min,e];exact eX _ _ _ _
 ·show tb.base<=w3.heap.size;omega
 ·show _=some (Obj.cells #[.pointer (some ⟨rb,0,none⟩),.pointer (some ⟨w.heap.size,0,none⟩),.int .i64 ((most-0:Nat):Int),.bool false,S.fv,.pointer none] 185 (0,0));rw[h];exact m
 ·intro k a;have l:=hF k a;have u:=g k a;refine⟨l.1,l.2.1,l.2.2,?_,?_,?_⟩
  ·show k≠w.heap.size;omega
  ·show k≠w.heap.size+1;omega
  ·simp[Value.ownBlock]
end Pr
namespace h_
open Go.RowKit Rf
open Pr (oz nI ai cell_of)
noncomputable def afr:Code:=(((f55.body.bind Aw).bind inner).bind inner).getD .skip
noncomputable def afL:Code:=((((f55.body.bind Aw).bind inner).bind inner).bind inner).getD .skip
theorem zT{B:Nat}{e:aY}{k:Nat}{v:ay}{n:Nat}{xs:List ay}{w w':af}(h:w.ownsRow B e k v n xs)(hb:aJ w.heap.size w w'):w'.ownsRow B e k v n xs:=by refine⟨h.1,h.2.imp id ?_⟩;rintro⟨g,cap,cur,a,b,h3,c⟩;exact⟨g,cap,cur,a,b,(hb.block _ (ai h3)).trans h3,c⟩
theorem adq(row:List Nat)(i D:Nat)(z:Int)(d:z=(i:Int))(v:ay)(w:af)(c:ig w v row)(hb:∀x∈row,x<=255)(hD:D=1\/D=2\/D=4\/D=8\/D=16)(f:(i+1)*D<=8*row.length)(b:D=16->2*i+1<row.length)(hi:i<=100000000)(a:row.length<=100000000):
 aF prog 100 #[v,.int .i64 z,.int .i64 (D:Int)] w fun e w'=>e= .returned (.int .i64 (oz row i D:Int))/\∃nq,w'=w.drewN nq:=by
 subst d;rcases(by omega:D=16\/(D=1\/D=2\/D=4\/D=8))with h|h
 ·subst h;refine(MC row i v w c hb (b rfl) a).mono ?_;rintro e w' ⟨rfl,g⟩;exact⟨by unfold oz;rw[aC rfl],g⟩
 ·have:=MB row i D v w c hb (by omega) f hi a;rw[Pr.ac0 row i D h]at this;exact this
theorem YA(row:List Nat)(x a D k:Nat)(h:k<a):(nI row x a D).take (k+1)=(nI row x a D).take k++[oz row (x*a+k) D]:=by rw[BC,aG (by rw[Pr.oZ];exact h)];simp[nI]
set_option maxRecDepth 100000 in
theorem abA(W H D K I x hb a:Nat)(row:List Nat)(rv:ay)(w0:af){c0 c1 c2 c3 c4 c5 c7 c8 c9 f8 f9 g0 g1 g2 g3 g4 g5 g6 g9 h0 h4 h5 h7 h9 i1 i2 i3 i4 i5 i6 i7 i9 j0 j1 j2 j3 j4 j5 j6 j7 j8 j9 k0 k1 k2 k3 k4 k5 k6 k7 k8 k9 l0 l1 l3 l4 l5 l6 l7 l8 l9 m0 m1 m2 m3 m4 m5 m6 m7 m8 m9 n0 n1 n2 n3 n4 n5 n6 n7 n8 n9 o0 o1 o2 o3 o4 o5 o6 o7 o8 o9 p0 p1 p2 p3 S T U V Y Z a0 a1 a2 a3 a4 a5 a6 a7 a8 a9 b0 b1 b2 b3 b4 b5 b6 b7 b8 b9 c6 d0 d1 d2 d4 d5 d6 d7 d8 d9 e0 e1 e2 e3 e4 e5 e6 e7 e8 e9 u18 O i l m n o p q r s v w y A B C E F G J:ay}{Q0:Exit->Act->af->Prop}
 (f4:fB K=a) (hK:K<=6) (hD:D=1\/D=2\/D=4\/D=8\/D=16) (hh:w0.heap[hb]?=some (.cells #[.int .i64 (W:Int),.int .i64 (H:Int),.int .i64 (D:Int),.int .i64 (K:Int),.int .i64 (I:Int)] 109 (0,0)))
 (L:ig w0 rv row) (f0:∀x∈row,x<=255) (hl:∀j,j<a->(x*a+j+1)*D<=8*row.length) (p4:D=16->∀j,j<a->2*(x*a+j)+1<row.length) (q9:row.length<=100000000) (hx:x<=1048576)
 (p5:u18= .slice none 0 0) (p6:O= .int .i64 0)
 (M:∀(sv O i l m n o p q r s v w y A B C E F G J:ay) (wx:af),ig wx sv (nI row x a D)->aJ w0.heap.size w0 wx->Q0 (.exit 6) ⟨#[c0,c1,c2,c3,c4,c5,.pointer (some ⟨hb,0,none⟩),c7,c8,c9,f8,f9,g0,g1,g2,g3,rv,.int .i64 (x:Int),sv,O,g4,g5,g6,g9,h0,h4,h5,h7,h9,i1,i2,i3,i4,i5,i6,i7,i9,j0,j1,j2,j3,j4,j5,j6,j7,j8,j9,k0,k1,k2,k3,k4,k5,k6,k7,k8,k9,l0,l1,l3,l4,l5,l6,l7,l8,l9,m0,m1,m2,m3,m4,m5,m6,m7,m8,m9,n0,n1,n2,n3,n4,n5,n6,n7,n8,n9,o0,o1,o2,o3,o4,o5,o6,o7,o8,o9,p0,p1,p2,p3,S,T,U,V,Y,Z,a0,a1,a2,a3,a4,a5,i,l,m,n,o,p,q,r,s,v,w,y,A,B,C,E,F,G,J,a6,a7,a8,a9,b0,b1,b2,b3,b4,b5,b6,b7,b8,b9,c6,d0,d1,d2,d4,d5,d6,d7,d8,d9,e0,e1,e2,e3,e4,e5,e6,e7,e8,e9],[]⟩ wx):
 Code.wp prog afL Q0 ⟨#[c0,c1,c2,c3,c4,c5,.pointer (some ⟨hb,0,none⟩),c7,c8,c9,f8,f9,g0,g1,g2,g3,rv,.int .i64 (x:Int),u18,O,g4,g5,g6,g9,h0,h4,h5,h7,h9,i1,i2,i3,i4,i5,i6,i7,i9,j0,j1,j2,j3,j4,j5,j6,j7,j8,j9,k0,k1,k2,k3,k4,k5,k6,k7,k8,k9,l0,l1,l3,l4,l5,l6,l7,l8,l9,m0,m1,m2,m3,m4,m5,m6,m7,m8,m9,n0,n1,n2,n3,n4,n5,n6,n7,n8,n9,o0,o1,o2,o3,o4,o5,o6,o7,o8,o9,p0,p1,p2,p3,S,T,U,V,Y,Z,a0,a1,a2,a3,a4,a5,i,l,m,n,o,p,q,r,s,v,w,y,A,B,C,E,F,G,J,a6,a7,a8,a9,b0,b1,b2,b3,b4,b5,b6,b7,b8,b9,c6,d0,d1,d2,d4,d5,d6,d7,d8,d9,e0,e1,e2,e3,e4,e5,e6,e7,e8,e9],[]⟩ w0:=by
 have p7:a<=4:=by rw[<-f4];exact wI K
 have P:=fun w'=>vJ W H D K I w' hK;unfold oQ at P;rw[f4]at P;have r0:x*a<=1048576*4:=bT hx p7;have p8:=fun(k:Nat) (hk:k<a) (w':af) (hb:aJ w0.heap.size w0 w')=>adq row (x*a+k) D (IntKind.i64.wrap (IntKind.i64.wrap ((x:Int)*(a:Int))+(k:Int))) (by
  have e:(x:Int)*(a:Int)=((x*a:Nat):Int):=by simp
  rw[e,bK,bK];omega) rv w' (L.below hb) f0 hD (hl k hk) (fun e=>p4 e k hk) (by omega) q9
 have p9:=Pr.oZ row x a D;have q0:ah _:=fun k=>YA row x a D k;have q3:ah _:=P;have r1:ah _:=p8;have HH:ah _:=hh;have q4:ah (hb<w0.heap.size):=(ai hh:_<_);have r2:ah _:=M;obtain⟨la,s4,r3,-⟩:=id L;generalize nI row x a D=X at*;clear P p8 L hh f0 hl p4 f4 M r0;have r4:ah _:=p9;clear p9;subst p5 p6 r3;conv=>arg 2;whnf
 dsimp only;go_loopw [18,19] (fun sv kv wx=> ∃k:Nat,kv= .int .i64 (k:Int)/\k<=a/\wx.ownsRow w0.heap.size 3 1 sv k (kW.jW (X.take k))/\aJ w0.heap.size w0 wx) (fun _ kv _=>a-(aX kv).toNat)
 case atStart=>exact⟨0,rfl,aU _,eX _ _ _ _,aP _ _⟩
 case round=>
  obtain⟨k,rfl,hk,f1,N⟩:=hrel;have c:=(N.block _ (ai HH.out)).trans HH.out;have z0:wr.cell? ⟨hb,0,none⟩=some (.int .i64 (W:Int)):=by simpa using(cell_of c 0).1
  have z1:wr.cell? ⟨hb,1,none⟩=some (.int .i64 (H:Int)):=by simpa using(cell_of c 1).1
  have z2:wr.cell? ⟨hb,2,none⟩=some (.int .i64 (D:Int)):=by simpa using(cell_of c 2).1
  have z3:wr.cell? ⟨hb,3,none⟩=some (.int .i64 (K:Int)):=by simpa using(cell_of c 3).1
  have z4:wr.cell? ⟨hb,4,none⟩=some (.int .i64 (I:Int)):=by simpa using(cell_of c 4).1
  have f5:ah _:=c;have q5:ah _:=f1;have f6:ah _:=N;clear c f1 N;go_wp2_with fail
  refine bz (q3.out _) ?_;rintro e w1 ⟨rfl,Q⟩;have f:ah _:=zT q5.out Q;have g:ah _:=(f6.out.trans (Q.mono (jh f6.out)):aJ _ _ _);have b:=(Q.block _ (ai f5.out)).trans f5.out;clear z0 z1 z2 z3 z4 q5 f6 f5 Q;by_cases q6:k<a;rotate_left
  ·have r5:¬((k:Int)<(a:Int)):=by omega
   have r6:ah (k=a):=(by omega:k=a);clear b;go_wp2_with fail
   have:=f.out;rw[r6.out,<-r4.out,sS]at this;exact r2.out _ _ _ _ _ _ _ _ _ _ _ _ _ _ _ _ _ _ _ _ _ _ (En this) g.out
  ·have r5:(k:Int)<(a:Int):=by omega
   have z0:w1.cell? ⟨hb,0,none⟩=some (.int .i64 (W:Int)):=by simpa using(cell_of b 0).1
   have z1:w1.cell? ⟨hb,1,none⟩=some (.int .i64 (H:Int)):=by simpa using(cell_of b 1).1
   have z2:w1.cell? ⟨hb,2,none⟩=some (.int .i64 (D:Int)):=by simpa using(cell_of b 2).1
   have z3:w1.cell? ⟨hb,3,none⟩=some (.int .i64 (K:Int)):=by simpa using(cell_of b 3).1
   have z4:w1.cell? ⟨hb,4,none⟩=some (.int .i64 (I:Int)):=by simpa using(cell_of b 4).1
   have q7:ah _:=ai b;clear b;have f2:ah _:=r1.out k q6;have f3:ah (X.take (k+1)=X.take k++[oz row (x*a+k) D]):=q0.out k q6;obtain⟨z,hz⟩:∃z,z=oz row (x*a+k) D:=⟨_,rfl⟩;rw[<-hz]at f3 f2;clear hz q0;have R:ah (w0.heap.size<=w1.heap.size):=(jh g.out:_<=_);go_upto_region 30 with fail
   obtain⟨i0,r7,r8,r9,s0⟩:=info_parts kW.tZ;have s3:u18.ownBlock≠some hb:=fun e=>by have h1:=(World.ownsRow.lt f.out hb e).1;have h2:=q4.out;omega
   go_region_held3 (fun w'=>(w'.cell? ⟨hb,0,none⟩=some (.int .i64 (W:Int))/\w'.cell? ⟨hb,1,none⟩=some (.int .i64 (H:Int))/\w'.cell? ⟨hb,2,none⟩=some (.int .i64 (D:Int))/\w'.cell? ⟨hb,3,none⟩=some (.int .i64 (K:Int))/\w'.cell? ⟨hb,4,none⟩=some (.int .i64 (I:Int))))
    (first|go_keep|(go_split_ands;refine⟨?_,?_,?_,?_,?_⟩<;>(rw[h.cell q7.out];assumption))|(go_split_ands;refine⟨?_,?_,?_,?_,?_⟩<;>(rw[q8.cell_far _ (by simp;have:=q7.out;have:=d.size;omega) (r_ s3)];assumption))) (first
    |(go_at_call 98;go_must (refine(q3.out _).mono ?_;rintro e w3 ⟨rfl,h⟩;have d:aJ w1.heap.size w1 w3:=⟨h.os,h.tape,h.output,h.size,h.block⟩))
    |(go_at_call 100;go_must (refine(f2.out _ (gI g.out (Below.mono d R.out))).mono ?_;rintro e w4 ⟨rfl,nq,rfl⟩))
    |((refine step_append_lies _ (by rfl) _ _ _ (by rfl) w0.heap.size 3 i0 _ 1 8 underlying29 r7 r8 r9 s0 rfl (by omega) u18 k (kW.jW (X.take k)) (by rfl) (by exact(zT f.out d).alloc _) ⟨w3.heap.size,0,none⟩ 1 1 [.int .i64 (z:Int)] (by rfl) rfl (World.news_of_block (cs:= #[.int .i64 (z:Int)]) (t:=3) (fr:=(0,0)) (by exact aO w3 _)) (by intro u hu;simp at hu;subst hu;rfl) (by omega) (by unfold maxLen;omega) (by omega) (by have q1:=R.out;have q2:=d.size;simp;omega) _ rfl ?_;intro ng s5 w5 f7 q8 s7 s6)))
   all_goals
    go_wp2_with fail
    go_roundw
    case rel=>refine⟨k+1,by go_num,by omega,?_,kW.pW (wr:=w3.drewN _) (kW.cZ (gI g.out (Below.mono d R.out))) (ag _) (aK R.out d.size) (show w3.ownsRow w0.heap.size 3 1 u18 k (kW.jW (X.take k))from zT f.out d) q8⟩;rw[f3.out,kW.nJ];exact f7
    case measure=>simp[aX];omega
end h_
namespace Pr
open Go.RowKit Rf Cr
open h_ (di)
structure adF(K:Nat)(st:Cs)(pl tr:ByteArray)(ted:Bool):Prop where
 nP:K=3->pl.size=3*st.E.length/\∀j,j<st.E.length->st.E.getD j (0,0,0,0)=(di (aA pl (3*j)) 8,di (aA pl (3*j+1)) 8,di (aA pl (3*j+2)) 8,if j<tr.size then di (aA tr j) 8 else 65535)
 aec:ted=false->st.C=[]
 Bq:(K=0\/K=2)->ted=true->st.C.length=bF K/\∀j,j<bF K->st.C.getD j 0=256*aA tr (2*j)+aA tr (2*j+1)
theorem abO(K D:Nat)(st:Cs)(pl tr:ByteArray)(ted:Bool)(h:adF K st pl tr ted)(hK:K=0\/K=2\/K=3\/K=4\/K=6)(row:List Nat)(i:Nat):wJ K D pl tr ted (nI row i (bF K) D)=Om K D st.E st.C row i:=by
 have a:(K=0\/K=2)->((ted=true/\∀j,j<(nI row i (bF K) D).length->256*aA tr (2*j)+aA tr (2*j+1)=(nI row i (bF K) D).getD j 0)↔nI row i (bF K) D=st.C):=fun d=>by
  constructor
  ·rintro⟨k,l⟩;obtain⟨c1,c2⟩:=h.Bq d k;refine GZ (by rw[oZ,c1]) (fun j c=> ?_);rw[<-l j c,c2 j (by rw[oZ]at c;exact c)]
  ·intro e;have hp:1<=bF K:=by rcases d with rfl|rfl<;>decide
   cases f:ted with
   |false=>have:=h.aec f;rw[this]at e;have g:=oZ row i (bF K) D;rw[e]at g;simp at g;omega
   |true=>obtain⟨c1,c2⟩:=h.Bq d f;refine⟨rfl,fun j c=> ?_⟩;rw[oZ]at c;rw[e,c2 j c]
 unfold wJ Om Qc;rcases hK with rfl|rfl|rfl|rfl|rfl
 ·have:=a (.inl rfl);simp only[this];simp
 ·have:=a (.inr rfl);simp only[this];simp
 ·have m:(nI row i (bF 3) D).getD 0 0=oz row i D:=by
   rw[VP row i (bF 3) D 0 (by decide)];show oz row (i*1+0) D=_;rw[Nat.mul_one,eH]
  obtain⟨s1,s2⟩:=h.nP rfl;simp only[if_true,m];by_cases b:oz row i D<st.E.length
  ·rw[au (by omega),aC b,s2 _ b]
  ·rw[aC (by omega),au b]
 ·simp
 ·simp
end Pr
namespace Pr
open Go.RowKit Rf
def C_(w:af)(v:ay)(L:List Nat):Prop:=∃la:Option bP,v= .slice la L.length L.length/\∀i,i<L.length->∃g,la=some ⟨g,0,none⟩/\w.cell? ⟨g,i,none⟩=some (.int .u16 ((L.getD i 0:Nat):Int))
theorem C_.nil(w:af):C_ w (.slice none 0 0) []:=⟨none,rfl,fun i hi=>by simp at hi⟩
theorem C_.nN{w:af}{gp n:Nat}{L:List Nat}(h:iC w gp L)(a:L.length=n):C_ w (.slice (some ⟨gp,0,none⟩) n n) L:=by subst a;refine⟨some ⟨gp,0,none⟩,rfl,fun i hi=>⟨gp,rfl,?_⟩⟩;rw[(cell_of h i).1];simp[dI,hi,List.getD_eq_getElem?_getD]
theorem zU(W H:Int)(s1 s2:ay)(L:List Nat)(w:af)(y:C_ w s1 L)(A:C_ w s2 L)(J:L.length<=100000000):
 aF prog 18 #[.agg #[.int .i64 W,.int .i64 H,s1],.agg #[.int .i64 W,.int .i64 H,s2]] w fun e w'=>e= .returned (.bool true)/\aJ w.heap.size w w':=by
 obtain⟨la,rfl,f⟩:=y;obtain⟨lb,rfl,g⟩:=A;have r:ah _:=f;have s:ah _:=g;clear f g;have h:ah (∀(o:Obj) (l:Obj),aJ w.heap.size w ((w.alloc o).alloc l)):=(fun o l=>((aP w.heap.size w).alloc (ag _) o).alloc (by simp) l:∀o l,aJ _ _ _);generalize t:L.length=n at*;clear t;go_enter func18,ntmps18
 go_upto_region 1 with fail
 have z:=h.out (.cells #[.int .i64 W,.int .i64 H,.slice la n n] 32) (.cells #[.int .i64 W,.int .i64 H,.slice lb n n] 32);have m:((w.alloc (.cells #[.int .i64 W,.int .i64 H,.slice la n n] 32)).alloc (.cells #[.int .i64 W,.int .i64 H,.slice lb n n] 32)).heap[w.heap.size]?=_:=(jT _ _ (by simp)).trans (aO w _);have p:((w.alloc (.cells #[.int .i64 W,.int .i64 H,.slice la n n] 32)).alloc (.cells #[.int .i64 W,.int .i64 H,.slice lb n n] 32)).heap[w.heap.size+1]?=some (.cells #[.int .i64 W,.int .i64 H,.slice lb n n] 32 (0,0)):=by have:=aO (w.alloc (.cells #[.int .i64 W,.int .i64 H,.slice la n n] 32)) (.cells #[.int .i64 W,.int .i64 H,.slice lb n n] 32);rw[qh]at this;exact this
 have j:ah _:=z;have a:ah _:=m;have b:ah _:=p;clear z m p h;revert j a b;generalize (w.alloc _).alloc _=w1;intro j a b;have m:w1.cell? ⟨w.heap.size,0,none⟩=some (.int .i64 W):=by simpa using(cell_of a.out 0).1
 have B:w1.cell? ⟨w.heap.size,1,none⟩=some (.int .i64 H):=by simpa using(cell_of a.out 1).1
 have v:w1.cell? ⟨w.heap.size,2,none⟩=some (.slice la n n):=by simpa using(cell_of a.out 2).1
 have p:w1.cell? ⟨w.heap.size+1,0,none⟩=some (.int .i64 W):=by simpa using(cell_of b.out 0).1
 have C:w1.cell? ⟨w.heap.size+1,1,none⟩=some (.int .i64 H):=by simpa using(cell_of b.out 1).1
 have x:w1.cell? ⟨w.heap.size+1,2,none⟩=some (.slice lb n n):=by simpa using(cell_of b.out 2).1
 go_wp2_with fail
 clear m B v p C x;go_loopw [5] (fun u wx=> ∃i:Nat,u= .int .i64 (i:Int)/\i<=n/\aJ w1.heap.size w1 wx) (fun u _=>n-(aX u).toNat)
 case atStart=>exact⟨0,rfl,aU _,aP _ _⟩
 case round=>
  obtain⟨i,rfl,hi,hb⟩:=hrel;have q:w.heap.size<=w1.heap.size:=jh j.out;have v:wr.cell? ⟨w.heap.size,2,none⟩=some (.slice la n n):=by rw[hb.cell (ai a.out)];simpa using(cell_of a.out 2).1
  have x:wr.cell? ⟨w.heap.size+1,2,none⟩=some (.slice lb n n):=by rw[hb.cell (ai b.out)];simpa using(cell_of b.out 2).1
  by_cases k:i<n
  ·obtain⟨D,E,c1⟩:=r.out i k;obtain⟨F,G,c2⟩:=s.out i k;subst E G;have c:aJ w.heap.size w wr:=gI j.out (hb.mono q);have d1:=(c.cell (World.block_lt_of_cell? w ⟨D,i,none⟩ c1)).trans c1;have d2:=(c.cell (World.block_lt_of_cell? w ⟨F,i,none⟩ c2)).trans c2;have d:ah _:=hb;clear hb c c1 c2 q;go_wp2_with fail
   go_quiet (fail)
   go_wp2_with fail
   go_roundw
   case rel=>exact⟨i+1,by go_num,by omega,kW.cZ d.out⟩
   case measure=>simp[aX];omega
  ·have d:ah _:=hb;have I:ah _:=q;clear hb q;go_wp2_with fail
   go_ret;exact⟨rfl,gI j.out (Below.mono d.out I.out)⟩
def sU(w:af)(v:ay)(n m:Nat):Prop:=w.ownsRow 0 39 1 v n (List.replicate n (.int .u16 (m:Int)))
theorem sU.below{w w':af}{v:ay}{n m:Nat}(h:sU w v n m)(e:∀g,v.ownBlock=some g->w'.heap[g]?=w.heap[g]?):sU w' v n m:=by refine⟨h.1,h.2.imp id ?_⟩;rintro⟨g,cap,cur,rfl,a,h3,b⟩;exact⟨g,cap,cur,rfl,a,(e g rfl).trans h3,b⟩
theorem adO{m:ay}{cur:List ay}{n q:Nat}(h:cur.take n=List.replicate n m)(d:q<cur.length):(cur.take q++[m]++cur.drop (q+1)).take n=List.replicate n m:=by
 refine List.ext_getElem? (fun j=> ?_);rcases bU j n with a|a
 ·rw[dU a,<-h,dU a];have b:cur[j]?=(List.replicate n m)[j]?:=by rw[<-h,dU a]
  rw[nU,aC a]at b;rw[b];rcases Nat.lt_trichotomy j q with c|c|c
  ·rw[bV,dh (by simp;omega),dU c,b]
  ·subst c;rw[bV,dw (by simp;omega),dh (by simp;omega)];simp[Nat.min_eq_left (Nat.le_of_lt d)]
  ·rw[dw (by simp;omega),iZ];rw[show(cur.take q++[m]).length=q+1 by simp;omega,show q+1+(j-(q+1))=j by omega,b]
 ·rw[fE (by simp;omega),fE (by simp;omega)]
theorem YP(w:af)(v:ay)(n m:Nat)(ty:aY)(a:bP)(t:sU w v n m)(hx:w.cell? a=some (.int .u16 (m:Int)))(V:n<=100000000):
 ∃v' w',(Builtin.append_ #[30,30] ty #[v,.slice (some a) 1 1]).run prog w= .ok v' w'/\sU w' v' (n+1) m/\(∀v2 q,sU w v2 q m->sU w' v2 q m)/\w.grownBy w' v.ownBlock/\∀k,v'.ownBlock=some k->v.ownBlock=some k\/w.heap.size<=k:=by
 obtain⟨y,hi,p,f,r⟩:=info_parts Nr;have d:∀j u,[Value.int .u16 (m:Int)][j]?=some u->w.cell? (a.add j)=some u:=by
  intro j u E;match j,E with
  |0,E=>simp at E;subst E;simpa [Addr.add]using hx
 have i:∀u∈[Value.int .u16 (m:Int)],u.oneCell'=true:=by intro u hu;simp at hu;subst hu;rfl
 obtain⟨v',w',z,O,M,_⟩:=run_append_own (P:=prog) w 0 30 ty 39 y (.int .u16 0) 1 2 underlying30 hi p f r rfl (by decide) v n _ t a 1 1 [.int .u16 (m:Int)] rfl d i (by unfold maxLen;omega) (by omega) (aU _);have F:sU w' v' (n+1) m:=by unfold sU;rw[List.replicate_succ'];exact O
 refine⟨v',w',z,F,?_,M,?_⟩
 ·rcases t.2 with⟨rfl,rfl⟩|⟨g,cap,cur,rfl,G,l,H,I,J,x⟩
  ·intro v2 q s;exact s.below (fun o A=>M.block o (s.lt o A).2 (by simp[Value.ownBlock]))
  ·by_cases h:n+1<=cap
   ·have c:=run_append_room (P:=prog) w 30 ty 39 y underlying30 hi g n cap cur l a 1 1 [.int .u16 (m:Int)] (by rw[f];rfl) d i h (by rw[f];simp;omega);rw[z]at c;obtain⟨_,rfl⟩:v'=_/\w'=_:=by injection c with a b;exact⟨a,b⟩
    intro v2 q s;by_cases hb:v2.ownBlock=some g
    ·refine⟨s.1,s.2.imp id ?_⟩;rintro⟨o,B,C,rfl,Q,R,S,T,W,N⟩;obtain rfl:o=g:=by simpa [Value.ownBlock]using hb
     have U:some (Obj.cells cur 39 (0,0))=some (Obj.cells C 39 (0,0)):=l.symm.trans R;have K:=(Obj.cells.inj (dB U)).1;subst K;have hlen:n<cur.toList.length:=by simp;omega
     refine⟨o,B,_,rfl,Q,setRow_heap _ o _ _ _ _ l,S,T,?_,?_⟩
     ·rw[f];simp;omega
     ·rw[f,Nat.mul_one,Nat.mul_one];rw[Nat.mul_one]at N;exact adO N hlen
    ·exact s.below (fun o A=>sO _ g o _ (fun e=>hb (by rw[A,e])))
   ·have c:=run_append_grow (P:=prog) w 30 ty 39 y (.int .u16 0) underlying30 hi p ⟨g,0,none⟩ n cap (List.replicate n (.int .u16 (m:Int))) (by rw[f];exact t.1) (t.cells (g:=g) rfl) a 1 1 [.int .u16 (m:Int)] (by rw[f];rfl) d (by omega) (by omega) (growslice_fits (by omega) (by rw[r];omega));rw[z]at c;obtain⟨_,rfl⟩:v'=_/\w'=_:=by injection c with a b;exact⟨a,b⟩
    intro v2 q s;exact s.below (fun o A=>aj _ _ o (s.lt o A).2)
 ·rcases t.2 with⟨rfl,rfl⟩|⟨g,cap,cur,rfl,G,l,H,I,J,x⟩
  ·obtain⟨v2,w2,c,L,_⟩:=run_append_own (P:=prog) w w.heap.size 30 ty 39 y (.int .u16 0) 1 2 underlying30 hi p f r rfl (by decide) (.slice none 0 0) 0 [] (eX _ _ _ _) a 1 1 [.int .u16 (m:Int)] rfl d i (by unfold maxLen;omega) (by omega) (ag _);rw[z]at c;obtain⟨rfl,rfl⟩:v'=v2/\w'=w2:=by injection c with a b;exact⟨a,b⟩
   intro k D;exact .inr (L.lt k D).1
  ·by_cases h:n+1<=cap
   ·have c:=run_append_room (P:=prog) w 30 ty 39 y underlying30 hi g n cap cur l a 1 1 [.int .u16 (m:Int)] (by rw[f];rfl) d i h (by rw[f];simp;omega);rw[z]at c;obtain⟨rfl,_⟩:v'=_/\w'=_:=by injection c with a b;exact⟨a,b⟩
    intro k D;exact .inl D
   ·have c:=run_append_grow (P:=prog) w 30 ty 39 y (.int .u16 0) underlying30 hi p ⟨g,0,none⟩ n cap (List.replicate n (.int .u16 (m:Int))) (by rw[f];exact t.1) (t.cells (g:=g) rfl) a 1 1 [.int .u16 (m:Int)] (by rw[f];rfl) d (by omega) (by omega) (growslice_fits (by omega) (by rw[r];omega));rw[z]at c;obtain⟨rfl,_⟩:v'=_/\w'=_:=by injection c with a b;exact⟨a,b⟩
    intro k D;simp[Value.ownBlock]at D;exact .inr (by omega)
theorem RJ{wr:af}{ops:Array Oper}{rest:List Oper}{o:Oper}{a:Act}{Q:Exit->Act->af->Prop}(c:o.guard=none)(s x:Operand)
 (e:o.op= .call {callee:= .builtin .append,args:= #[s,x],argTypes:= #[30,30]}) (v:ay) (n m:Nat)
 (f:sU wr v n m) (hs:a.eval s=v) (hx:a.eval x= .slice (some ⟨wr.heap.size,0,none⟩) 1 1) (g:n<=100000000)
 (h:∀v' w',sU w' v' (n+1) m->(∀v2 q,sU wr v2 q m->sU w' v2 q m)->(wr.alloc (.cells #[.int .u16 (m:Int)] 39)).grownBy w' v.ownBlock->(∀k,v'.ownBlock=some k->v.ownBlock=some k\/wr.heap.size<=k)->wpList prog ops Q rest (a.put o.dst v') w'):
 wpList prog ops Q (o::rest) a (wr.alloc (.cells #[.int .u16 (m:Int)] 39)):=by
 have b:∀v2 q,sU wr v2 q m->sU (wr.alloc (.cells #[.int .u16 (m:Int)] 39)) v2 q m:=fun v2 q d=>d.alloc _;obtain⟨v',w',i,d,h3,j,l⟩:=YP (wr.alloc (.cells #[.int .u16 (m:Int)] 39)) v n m o.type ⟨wr.heap.size,0,none⟩ (b _ _ f) (by simp) g;refine wpList_plain c fun K hK=> ?_;unfold Oper.wp execOp;simp only[e,resolve,invoke,builtin,Sem.run_bind,Sem.run_pure,Result.andThen_ok,List.map_toArray,List.map_cons,List.map_nil,hs,hx,i];exact hK _ _ (h v' w' d (fun v2 q h=>h3 _ _ (b _ _ h)) j (fun k p=>(l k p).imp id (fun h=>by simp at h;omega)))
theorem aeW:(prog.info? 30).map (fun i=>(i.zero,i.size,i.bytes))=some (some (.slice none 0 0),1,24):=by kernel_rfl
theorem Oe{wr:af}{ops:Array Oper}{rest:List Oper}{o:Oper}{a:Act}{Q:Exit->Act->af->Prop}(e:o.guard=none)(s x:Operand)
 (k:o.op= .call {callee:= .builtin .append,args:= #[s,x],argTypes:= #[37,37]}) (base:Nat) (v:ay) (n:Nat) (xs:List ay) (la:Option bP) (c lc:Nat)
 (b:wr.ownsRow base 30 1 v n xs) (hs:a.eval s=v) (hx:a.eval x= .slice (some ⟨wr.heap.size,0,none⟩) 1 1) (q:n<=1000) (hb:base<=wr.heap.size)
 (h:∀v' w',w'.ownsRow base 30 1 v' (n+1) (xs++[.slice la c lc])->(wr.alloc (.cells #[.slice la c lc] 30)).grownBy w' v.ownBlock->wpList prog ops Q rest (a.put o.dst v') w'):
 wpList prog ops Q (o::rest) a (wr.alloc (.cells #[.slice la c lc] 30)):=by
 obtain⟨l,hi,f,g,i⟩:=info_parts aeW;refine xY _ e s x 37 k base 30 l (.slice none 0 0) 1 24 underlying37 hi f g i rfl (by decide) v n xs hs (b.alloc _) ⟨wr.heap.size,0,none⟩ 1 1 [.slice la c lc] hx rfl ?_ ?_ ?_ ?_ ?_ ?_
 ·intro j u d;match j,d with
  |0,d=>simp at d;subst d;simp[Addr.add]
 ·intro u hu;simp at hu;subst hu;rfl
 ·unfold maxLen;omega
 ·omega
 ·simp;omega
 ·intro v' w' m p h3;exact h v' w' m p
def pV(w:af)(v:ay)(m:Nat):Prop:=∃(base k:Nat) (S:List ay),w.ownsRow base 30 1 v k S/\k<=4/\∀s∈S,∃q,q<=50000000/\sU w s q m
theorem pV.below{w w':af}{v:ay}{m:Nat}(h:pV w v m)(hb:aJ w.heap.size w w'):pV w' v m:=by
 obtain⟨base,k,S,a,d,h3⟩:=h;refine⟨base,k,S,?_,d,fun s hs=> ?_⟩
 ·refine⟨a.1,a.2.imp id ?_⟩;rintro⟨g,cap,cur,e,f,b,i⟩;exact⟨g,cap,cur,e,f,(hb.block _ (ai b)).trans b,i⟩
 ·obtain⟨q,j,c⟩:=h3 s hs;exact⟨q,j,c.below (fun g l=>hb.block g (c.lt g l).2)⟩
theorem YQ{m:Nat}{L:List Nat}{i:Nat}(hi:i<L.length):(List.replicate i m++L.drop i).set i m=List.replicate (i+1) m++L.drop (i+1):=by
 rw[List.set_append_right _ _ (by simp),mJ,iW,List.replicate_succ',bV];congr 1
 rw[mD hi];rfl
theorem Vg{w:af}{gp n m:Nat}(h:iC w gp (List.replicate n m))(a:n<=100000000):sU w (.slice (some ⟨gp,0,none⟩) n n) n m:=by refine⟨by simp,.inr ⟨gp,n,_,rfl,aU _,h,ag _,by unfold maxLen;omega,by simp[dI],?_⟩⟩;simp[dI]
theorem RN{wr w2:af}{base k q m:Nat}{v b:ay}{S:List ay}{nN:Obj}(i:wr.ownsRow base 30 1 b k S)(a:sU wr v q m)(j:(wr.alloc nN).grownBy w2 b.ownBlock):sU w2 v q m:=by
 refine a.below (fun g e=>(j.block g (by have:=(a.lt g e).2;simp;omega) (fun c=> ?_)).trans (jT _ _ (a.lt g e).2));rcases i.2 with⟨rfl,_⟩|⟨l,cap,cur,rfl,_,h3,_⟩
 ·cases c
 ·rcases a.2 with⟨rfl,_⟩|⟨n,d,f,rfl,_,h,_⟩
  ·cases e
  ·have o:n=g:=by simpa [Value.ownBlock]using e
   have p:g=l:=by simpa [Value.ownBlock]using c
   rw[o,p,h3]at h;exact absurd (Obj.cells.inj (dB h)).2.1 (by decide)
theorem WA(la:Option bP)(L:List Nat)(n m:Nat)(w:af)(I:(la=none/\n=0)\/∃gp,la=some ⟨gp,0,none⟩/\iC w gp L)(hL:L.length=n)(hn:n<=10000000)(hm:m<=65535):
 aF prog 19 #[.slice la n n,.int .u16 (m:Int)] w fun e w'=> ∃v,e= .returned v/\pV w' v m/\Fr (fun k=>(Value.slice la n n).ownBlock=some k) w w':=by
 have y:ah _:=I;have X:ah _:=hL;clear I hL;go_enter func19,ntmps19
 go_wp2_with fail
 go_loopw [6] (fun A wx=> ∃i:Nat,A= .int .i64 (i:Int)/\i<=n/\(∀gp,la=some ⟨gp,0,none⟩->iC wx gp (List.replicate i m++L.drop i))/\Fr (fun k=>(Value.slice la n n).ownBlock=some k) w wx) (fun A _=>n-(aX A).toNat)
 case atStart=>
  refine⟨0,rfl,aU _,fun gp e=> ?_,Fr.refl _ _⟩;rcases y.out with⟨a,_⟩|⟨g,a,Y⟩
  ·rw[a]at e;cases e
  ·rw[a]at e;injection e with e
   injection e with e
   subst e;exact Y
 case round=>
  obtain⟨i,rfl,hi,U,hF⟩:=hrel;by_cases Z:i<n
  ·obtain⟨gp,rfl⟩:∃gp,la=some ⟨gp,0,none⟩:=by
    rcases y.out with⟨_,a⟩|⟨g,a,_⟩
    ·omega
    ·exact⟨g,a⟩
   have hp:=U gp rfl;have hlen:(List.replicate i m++L.drop i).length=n:=by have:=X.out;simp;omega
   have c0:∃z,wr.cell? ⟨gp,i,none⟩=some (.int .u16 z):=by refine⟨((List.replicate i m++L.drop i).getD i 0:Nat),?_⟩;rw[(cell_of hp i).1];simp only[dI,List.getElem?_toArray,List.getElem?_map,List.getD_eq_getElem?_getD];rw[aG (by omega)];rfl
   obtain⟨z,c0⟩:=c0;have f0:=(cell_of hp i).2;have a0:ah (iC (wr.setCell ⟨gp,i,none⟩ (.int .u16 (m:Int))) gp (List.replicate (i+1) m++L.drop (i+1))):=(by refine(bG hp i _).trans ?_;rw[<-YQ (by rw[X.out];exact Z)];simp[dI]:iC _ _ _)
   have a1:ah _:=hF.set gp i (show(Value.slice (some ⟨gp,0,none⟩) n n).ownBlock=some gp from rfl) (.int .u16 (m:Int));clear U hF hp hlen;go_wp2_with fail
   go_roundw
   case rel=>exact⟨i+1,by go_num,by omega,fun g e=>by injection e with e;injection e with e;subst e;exact a0.out,a1.out⟩
   case measure=>simp[aX];omega
  ·have J:i=n:=by omega
   have B:ah (sU wr (.slice la n n) n m):=(by
    rcases y.out with⟨a,Y⟩|⟨g,a,_⟩
    ·subst a Y;exact eX _ _ _ _
    ·have:=U g a;rw[J,lQ (by rw[X.out];exact ag _),zA]at this;subst a;exact Vg this (by omega):sU _ _ _ _)
   have V:ah _:=hF;clear U hF;clear J;obtain⟨c,d⟩:∃F:Nat->Prop,F=fun k=>(Value.slice la n n).ownBlock=some k:=⟨_,rfl⟩;have K:ah (∀b,c b↔(Value.slice la n n).ownBlock=some b):=(fun b=>by rw[d]:∀b,_);rw[<-d]at V|-;clear d;generalize wr=w1 at*;go_wp2_with fail
   go_loopw [0,5,7] (fun lv ov A wx=> ∃(k:Nat) (S:List ay) (f:Option bP) (lc:Nat) (oa:Option bP) (oc:Nat),lv= .slice f (n+k) lc/\ov= .slice oa k oc/\A= .int .i64 (k:Int)/\k<=4/\sU wx (.slice f (n+k) lc) (n+k) m/\wx.ownsRow w.heap.size 30 1 (.slice oa k oc) k S/\(∀s∈S,∃q,q<=50000000/\sU wx s q m)/\Fr c w wx/\(∀b,(Value.slice f (n+k) lc).ownBlock=some b->c b\/w.heap.size<=b)) (fun _ _ A _=>4-(aX A).toNat)
   case atStart=>exact⟨0,[],la,n,none,0,rfl,rfl,rfl,by omega,B.out,eX _ _ _ _,fun s hs=>by simp at hs,V.out,fun b h=> .inl ((K.out b).2 h)⟩
   case round=>
    obtain⟨k,S,f,lc,oa,oc,rfl,rfl,rfl,hk,hR,W,hS,hF,hB⟩:=hrel;by_cases b2:k<4
    ·have a2:(k:Int)<4:=by omega
     have HR:ah _:=hR;have G:ah _:=W;have HS:ah _:=hS;have o:ah _:=hF;have M:ah _:=hB;have N:w.heap.size<=wr.heap.size:=hF.size;clear hR W hS hF hB V B
     go_wp2_with (first
      |(at_builtin;refine Oe rfl _ _ rfl w.heap.size _ k S f (n+k) lc G.out rfl rfl (by omega) N ?_;intro v' w2 j hg;obtain⟨t,r,rfl⟩:=kW.kX j;have C:ah _:=RN G.out HR.out hg)
      |(at_builtin;refine RJ rfl _ _ rfl _ (n+k) m C.out rfl rfl (by omega) ?_;intro v3 w3 l O P Q;obtain⟨a3,D,rfl⟩:=kW.kX l))
     have H:ah _:=hg;have R:ah _:=j;have a4:ah _:=l;have T:ah _:=O;have p:ah _:=P;have a5:ah _:=Q;clear hg j l O P Q;go_roundw
     case rel=>
      have a6:wr.heap.size<=w2.heap.size:=by have:=H.out.size;simp at this;omega
      have u:Fr c w w2:=by refine⟨H.out.os.trans o.out.os,H.out.tape.trans o.out.tape,H.out.output.trans o.out.output,aK N a6,fun b hb x=> ?_⟩;refine(H.out.block b (by simp;omega) (fun e=> ?_)).trans ((jT _ _ (by omega)).trans (o.out.block b hb x));have:=(World.ownsRow.lt G.out b e.symm).1;omega
      have a7:Fr c w w3:=by
       have hz:=p.out.size;refine⟨p.out.os.trans u.os,p.out.tape.trans u.tape,p.out.output.trans u.output,by simp at hz;omega,fun b hb x=> ?_⟩;refine(p.out.block b (by simp;omega) (fun e=> ?_)).trans ((jT _ _ (by omega)).trans (u.block b hb x));rcases M.out b e.symm with h|h
       ·exact x h
       ·omega
      have E:w3.ownsRow w.heap.size 30 1 (.slice (some ⟨t,0,none⟩) (k+1) r) (k+1) (S++[.slice f (n+k) lc]):=by
       refine(World.ownsRow.alloc R.out _).kept p.out (.inr (fun e=> ?_));have a:=R.out.2;rcases a with⟨a,_⟩|⟨g2,a8,a9,a,_,h3,_⟩
       ·cases a
       ·rcases C.out.2 with⟨h4,_⟩|⟨g4,b0,b1,h4,_,h5,_⟩
        ·rw[h4]at e;cases e
        ·rw[h4]at e;have e1:t=g4:=by simpa [Value.ownBlock]using e
         have e2:t=g2:=by injection a with a;injection a with a;injection a
         rw[<-e2,e1,h5]at h3;exact absurd (Obj.cells.inj (dB h3)).2.1 (by decide)
      refine⟨k+1,S++[.slice f (n+k) lc],some ⟨a3,0,none⟩,D,some ⟨t,0,none⟩,r,rfl,rfl,by go_num,by omega,a4.out,E,fun s hs=> ?_,a7,fun b e=> ?_⟩
      ·rcases List.mem_append.1 hs with h|h
       ·obtain⟨q,hq,hr⟩:=HS.out s h;exact⟨q,hq,T.out _ _ (RN G.out hr H.out)⟩
       ·rw[List.mem_singleton.1 h];exact⟨n+k,by omega,T.out _ _ C.out⟩
      ·rcases a5.out b e with h|h
       ·exact M.out b h
       ·exact .inr (by omega)
     case measure=>simp[aX];omega
    ·have a2:¬((k:Int)<4):=by omega
     have G:ah _:=W;have HS:ah _:=hS;have o:ah _:=hF;clear hR W hS hF hB V B;go_wp2_with fail
     go_ret;exact⟨_,rfl,⟨w.heap.size,k,S,G.out,hk,HS.out⟩,o.out.mono (fun b h=>(K.out b).1 h)⟩
theorem YR{w:af}{v:ay}{q m j:Nat}(h:sU w v q m)(a:j<q):∃g cap,v= .slice (some ⟨g,0,none⟩) q cap/\w.cell? ⟨g,j,none⟩=some (.int .u16 (m:Int)):=by
 rcases h.2 with⟨_,b⟩|⟨g,cap,cur,rfl,_⟩
 ·omega
 ·refine⟨g,cap,rfl,?_⟩;rw[h.cellAt j (by omega),nU,aC a]
theorem abX{w:af}{v:ay}{q m:Nat}(h:sU w v q m):∃la cap,v= .slice la q cap:=by
 rcases h.2 with⟨rfl,rfl⟩|⟨g,cap,cur,rfl,_⟩
 ·exact⟨_,_,rfl⟩
 ·exact⟨_,_,rfl⟩
theorem RP(v:ay)(m:Nat)(w:af)(h:pV w v m)(hm:m<=65535):
 aF prog 20 #[v,.int .u16 (m:Int)] w fun e w'=>e= .returned (.bool true)/\aJ w.heap.size w w':=by
 obtain⟨base,k,S,d,D,hS⟩:=h;obtain⟨l,t,rfl⟩:∃l t,v= .slice l k t:=by
  rcases d.2 with⟨rfl,rfl⟩|⟨g,cap,cur,rfl,_⟩
  ·exact⟨_,_,rfl⟩
  ·exact⟨_,_,rfl⟩
 have B:ah (∀i,i<k->∃g b q a,l=some ⟨g,0,none⟩/\w.cell? ⟨g,i,none⟩=some (.slice b q a)/\q<=50000000/\sU w (.slice b q a) q m):=(fun i hi=>by
  rcases d.2 with⟨_,E⟩|⟨g,cap,cur,e,_⟩
  ·omega
  ·injection e with C f u
   subst C;have x:i<S.length:=by rw[d.1];omega
   have y:=d.cellAt i (by omega);obtain⟨q,z,c⟩:=hS (S[i]) (xm x);obtain⟨b,a,e⟩:=abX c;rw[aG x,e]at y;rw[e]at c;exact⟨g,b,q,a,rfl,y,z,c⟩:∀i,_)
 clear d hS;go_enter func20,ntmps20
 go_wp2_with fail
 go_loop [5] (fun n=> ∃i:Nat,n= .int .i64 (i:Int)/\i<=k) (fun n=>k-(aX n).toNat)
 case atStart=>exact⟨0,rfl,aU _⟩
 case round=>
  obtain⟨i,rfl,hi⟩:=hrel;by_cases o:i<k
  ·obtain⟨g,b,q,a,rfl,c0,z,c⟩:=B.out i o;have p:ah _:=c;clear c;go_wp2_with fail
   go_loop [6] (fun r=> ∃j:Nat,r= .int .i64 (j:Int)/\j<=q) (fun r=>q-(aX r).toNat)
   case atStart=>exact⟨0,rfl,aU _⟩
   case round=>
    obtain⟨j,rfl,F⟩:=hrel;by_cases s:j<q
    ·obtain⟨G,A,f,c2⟩:=YR p.out s;injection f with f _ u
     subst f u;go_wp2_with fail
     go_round
     case rel=>exact⟨j+1,by go_num,by omega⟩
     case measure=>simp[aX];omega
    ·go_wp2_with fail
     go_round
     case rel=>exact⟨i+1,by go_num,by omega⟩
     case measure=>simp[aX];omega
  ·go_wp2_with fail
   go_ret;exact⟨rfl,aP _ _⟩
end Pr
end Go.Proofs.YtephkcdbnogdhaaGreatDoor
