import Derived.Test.YtephkcdbnogdhaaGreatDoorM18
set_option linter.unusedVariables false
set_option maxHeartbeats 40000000
set_option maxRecDepth 10000
namespace Go.Proofs.YtephkcdbnogdhaaGreatDoor
open Go renaming World->af
open Go.RowKit renaming Hid->ah
namespace h_
open Go.RowKit Rf Cr
open Pr (PS qY Oq Jd)
set_option maxRecDepth 100000 in
theorem adt:UY fun s p=>qp s p/\Pr.dQ s (p+4) 4=Pr.jm:=by
 rintro W H D K I s x0 x w wr Z hs hK a0 hD ⟨hc,M⟩;intros
 rename_i N t;obtain⟨hx,uJ,tu,hda,ql,yj,hM⟩:=Z;have u:ah _:=fun(w':af)=>uY s x.pos w' (by omega) hs;have L:ah _:=hx;have U:ah _:=hM;have g:ah _:=t;clear hx hM N t;conv=>arg 2;whnf
 go_wp2_with fail
 refine bz (u.out wr) ?_;rintro e w1 ⟨l,v⟩;have A:ah (PM w w1 W H D K I x):=(U.out.iU v:PM _ _ _ _ _ _ _ _);clear U v u;rcases l with⟨O,c1,c2,z,rfl⟩|⟨m,rfl⟩
 ·exact absurd hc O
 obtain⟨ty,h⟩:∃ty,ty=Pr.dQ s (x.pos+4) 4:=⟨_,rfl⟩;obtain⟨d,i⟩:∃d,d=Pr.dQ s (x.pos+8) (aT s x.pos):=⟨_,rfl⟩;obtain⟨bh,n⟩:∃bh,bh=x.pos+12+aT s x.pos:=⟨_,rfl⟩;unfold xU;rw[<-h,<-i,<-n];have P:=m.2.2.1;have a1:ty.size=4:=by rw[h];exact Pr.gq s _ 4 (by omega)
 have B:d.size=aT s x.pos:=by rw[i];exact Pr.gq s _ _ (by omega)
 have a2:x.pos+d.size<=bh:=by omega
 have C:ah _:=h;have a3:ah _:=i;have E:ah _:=n;have F:ah _:=B;have Q:ah _:=m;clear h i n m P B;go_upto_region 4 with fail
 have c:ah _:=A.out.alloc (.cells #[.string ty,.string d] 105);have f:(w1.alloc (.cells #[.string ty,.string d] 105)).heap[w1.heap.size]?=_:=aO w1 (.cells #[.string ty,.string d] 105);clear A;revert c f;generalize (w1.alloc _)=w2;generalize w1.heap.size=cb;intro c f;have c0:w2.cell? ⟨cb,0,none⟩=some (.string ty):=by simpa using(Pr.cell_of f 0).1
 have c1:w2.cell? ⟨cb,1,none⟩=some (.string d):=by simpa using(Pr.cell_of f 1).1
 clear f;obtain⟨⟨p0,p1,p2,p3,p4,p5,p6,p7,p8,p9⟩,k2,k3⟩:=PM.cells c.out;obtain⟨r0,r1,r2,r3,r4,r5,r6,r7,r8,r9⟩:=PM.ER c.out;obtain⟨s0,s1,s2,s3,s4,s5,s6,s7,s8,s9⟩:=PM.soft c.out;obtain⟨a4,a5,a6,a7,a8⟩:=PM.Lt c.out;have V:ty=Pr.jm:=by rw[C.out];exact M
 have j:ah (Pr.dQ s (x.pos+4) 4=Pr.jm):=(by rw[<-C.out];exact V:_=_);subst V;unfold Pr.jm at*;rcases(by omega:x.bW=0\/1<=x.bW)with e|e
 ·have R:ah _:=e;rw[e];go_wp2_with fail
  refine g.out false ⟨x.pos,x.bW,x.pl,x.tr,x.pb,x.tb,x.da⟩ _ (PM.ret (c.out.as rfl rfl rfl rfl rfl)) (fun _=>(fun⟨y,G⟩=>by have X:=(IB ((L.out y).1 G) j.out).1;have h2:=R.out;omega)) (fun e=>Bool.noConfusion e)
 ·have R:ah _:=e;by_cases o:d.size=0
  ·have J:d=⟨#[]⟩:=by
    apply oJ;exact Array.eq_empty_of_size_eq_zero o
   have q:ah (aT s x.pos=0):=(by rw[<-F.out];exact o:_=_);subst J;clear o;by_cases hb:bh=s.size
   ·have S:((bh:Int)==(s.size:Int))=true:=by rw[iV];omega
    have r:ah _:=hb;clear hb;rcases(by omega:x.bW=1\/x.bW=2)with k|k
    all_goals
     rw[k];go_wp2_with fail
     refine g.out true ⟨x.pos,x.bW,x.pl,x.tr,x.pb,x.tb,x.da⟩ _ (PM.ret (c.out.as rfl rfl rfl rfl rfl)) (fun e=>Bool.noConfusion e) (fun _=>⟨(L.out x).2 (.done Q.out j.out R.out q.out (by have X:=E.out;have h2:=r.out;have h3:=q.out;omega)),(by show x.da.size<=s.size;omega),ql,yj⟩)
   ·have S:((bh:Int)==(s.size:Int))=false:=by rw[ax];omega
    have r:ah _:=hb;clear hb;rcases(by omega:x.bW=1\/x.bW=2)with k|k
    all_goals
     rw[k];go_wp2_with fail
     refine g.out false ⟨x.pos,x.bW,x.pl,x.tr,x.pb,x.tb,x.da⟩ _ (PM.ret (c.out.as rfl rfl rfl rfl rfl)) (fun _=>(fun⟨y,G⟩=>by have X:=(IB ((L.out y).1 G) j.out).2.2.1;have h3:=q.out;have h4:=E.out;exact r.out (by omega))) (fun e=>Bool.noConfusion e)
  ·have q4:d≠⟨#[]⟩:=fun e=>by rw[e]at o;exact o rfl
   have Y:(d.toList==([]:List UInt8))=false:=by have:=lK q4;rw[show(⟨#[]⟩:ByteArray).toList=[]by rw[bD]]at this;exact this
   have q2:d.toList.isEmpty=false:=by
    cases hd:d.toList with
    |nil=>rw[hd]at Y;cases Y
    |cons a b=>rfl
   have T:ah (aT s x.pos≠0):=(by rw[<-F.out];exact o:_≠_);clear o;rcases(by omega:x.bW=1\/x.bW=2)with k|k
   all_goals
    rw[k];go_wp2_with fail
    refine g.out false ⟨x.pos,x.bW,x.pl,x.tr,x.pb,x.tb,x.da⟩ _ (PM.ret (c.out.as rfl rfl rfl rfl rfl)) (fun _=>(fun⟨y,G⟩=>T.out (IB ((L.out y).1 G) j.out).2.1)) (fun e=>Bool.noConfusion e)
set_option maxRecDepth 100000 in
theorem adu:UY fun s p=>qp s p/\Pr.dQ s (p+4) 4=Pr.dV:=by
 rintro W H D K I s x0 x w wr hP hs hK a1 hD ⟨hc,v⟩;intros
 rename_i A B;obtain⟨hx,uJ,tu,hda,ql,yj,hM⟩:=hP;have C:ah _:=fun(w':af)=>uY s x.pos w' (by omega) hs;have R:ah _:=hx;have HM:ah _:=hM;have E:ah _:=A;have F:ah _:=B;clear hx hM A B;conv=>arg 2;whnf
 go_wp2_with fail
 refine bz (C.out wr) ?_;rintro e w1 ⟨n,G⟩;have J:ah (PM w w1 W H D K I x):=(HM.out.iU G:PM _ _ _ _ _ _ _ _);clear HM G C;rcases n with⟨S,c1,c2,z,rfl⟩|⟨o,rfl⟩
 ·exact absurd hc S
 obtain⟨ty,g⟩:∃ty,ty=Pr.dQ s (x.pos+4) 4:=⟨_,rfl⟩;obtain⟨b,i⟩:∃b,b=Pr.dQ s (x.pos+8) (aT s x.pos):=⟨_,rfl⟩;obtain⟨bh,q⟩:∃bh,bh=x.pos+12+aT s x.pos:=⟨_,rfl⟩;unfold xU;rw[<-g,<-i,<-q];have T:=o.2.2.1;have a2:ty.size=4:=by rw[g];exact Pr.gq s _ 4 (by omega)
 have U:b.size=aT s x.pos:=by rw[i];exact Pr.gq s _ _ (by omega)
 have L:bh<=s.size:=by omega
 have a3:x.pos<bh:=by omega
 have a4:x.pos+b.size<=bh:=by omega
 have r:ah _:=g;have M:ah _:=i;have V:ah _:=q;have X:ah _:=o;clear g i q o T U;go_upto_region 4 with fail
 have a:ah _:=J.out.alloc (.cells #[.string ty,.string b] 105);have d:(w1.alloc (.cells #[.string ty,.string b] 105)).heap[w1.heap.size]?=_:=aO w1 (.cells #[.string ty,.string b] 105);clear J;revert a d;generalize (w1.alloc _)=w2;generalize w1.heap.size=cb;intro a d;have c0:w2.cell? ⟨cb,0,none⟩=some (.string ty):=by simpa using(Pr.cell_of d 0).1
 have c1:w2.cell? ⟨cb,1,none⟩=some (.string b):=by simpa using(Pr.cell_of d 1).1
 clear d;obtain⟨⟨p0,p1,p2,p3,p4,p5,p6,p7,p8,p9⟩,k2,k3⟩:=PM.cells a.out;obtain⟨r0,r1,r2,r3,r4,r5,r6,r7,r8,r9⟩:=PM.ER a.out;obtain⟨s0,s1,s2,s3,s4,s5,s6,s7,s8,s9⟩:=PM.soft a.out;obtain⟨a5,a6,a7,a8,a9⟩:=PM.Lt a.out;have N:ah (Pr.Bv s x.pos=bh):=(by have:=V.out;unfold Pr.Bv;omega:_=_);have t1:ty≠Pr.jm:=by rw[r.out,v];decide
 have l1:=lK t1;rw[show Pr.jm.toList=[73,69,78,68]by rw[bD];rfl]at l1;clear t1;have t2:ty=Pr.dV:=by rw[r.out];exact v
 have j:ah (Pr.dQ s (x.pos+4) 4=Pr.dV):=(by rw[<-r.out];exact t2:_=_);subst t2;clear l1;unfold Pr.dV at*;have a0:x.da.size+b.size<=9223372036854775807:=by omega
 have l:ah (x.bW<=1->(K=3->x.pb=true)->∀y,qY s K D x0 y↔qY s K D ⟨bh,1,x.pl,x.tr,x.pb,x.tb,x.da++b⟩ y):=(fun O h2 y=>(R.out y).trans ⟨fun h=>by have h3:=(IC h j.out).2.2;rw[N.out,<-M.out]at h3;exact h3,fun h=> .Bi X.out j.out O h2 (by rw[N.out,<-M.out];exact h)⟩:_);rcases(by omega:x.bW=2\/x.bW<=1)with e|e
 ·have P:ah _:=e;rw[e];go_wp2_with fail
  have f:=PM.ret (y:=⟨x.pos,x.bW,x.pl,x.tr,x.pb,x.tb,x.da⟩) (a.out.as rfl rfl rfl rfl rfl);dsimp only at f;exact F.out false ⟨x.pos,x.bW,x.pl,x.tr,x.pb,x.tb,x.da⟩ _ f (fun _=>(fun⟨y,Y⟩=>by have O:=(IC ((R.out y).1 Y) j.out).1;have h2:=P.out;omega)) (fun e=>Bool.noConfusion e)
 ·have P:ah _:=e;have t:ah (PM w (w2.setCell ⟨w.heap.size+2,9,none⟩ (.string (x.da++b))) W H D K I ⟨bh,1,x.pl,x.tr,x.pb,x.tb,x.da++b⟩):=(a.out.set 9 _ (by simp[oI]):PM _ _ _ _ _ _ _ _);by_cases Q:K=3
  ·have Z:((K:Int)==3)=true:=by rw[iV];omega
   have u:ah _:=Q;clear Q;cases c:x.pb with
   |false=>
    rw[c]at p7;have k:ah _:=c;rcases(by omega:x.bW=0\/x.bW=1)with m|m
    all_goals
     rw[m];clear t;clear c;go_wp2_with fail
     have f:=PM.ret (y:=⟨x.pos,x.bW,x.pl,x.tr,false,x.tb,x.da⟩) (a.out.as rfl rfl k.out.symm rfl rfl);dsimp only at f;exact F.out false ⟨x.pos,x.bW,x.pl,x.tr,false,x.tb,x.da⟩ _ f (fun _=>(fun⟨y,Y⟩=>by have O:=(IC ((R.out y).1 Y) j.out).2.1 u.out;rw[k.out]at O;cases O)) (fun e=>Bool.noConfusion e)
   |true=>
    rw[c]at p7;have k:ah _:=c;clear c;rcases(by omega:x.bW=0\/x.bW=1)with m|m
    all_goals
     rw[m];go_wp2_with fail
     exact E.out ⟨bh,1,x.pl,x.tr,x.pb,x.tb,x.da++b⟩ _ _ _ rfl (rfl) ⟨l.out P.out (fun _=>k.out),(by omega:1<=2),L,(by show(x.da++b).size<=bh;simp;omega),ql,yj,t.out⟩ (by show x.pos<bh;omega)
  ·have Z:((K:Int)==3)=false:=by rw[ax];omega
   have u:ah _:=Q;clear Q;rcases(by omega:x.bW=0\/x.bW=1)with m|m
   all_goals
    rw[m];go_wp2_with fail
    exact E.out ⟨bh,1,x.pl,x.tr,x.pb,x.tb,x.da++b⟩ _ _ _ rfl (rfl) ⟨l.out P.out (fun h=>absurd h u.out),(by omega:1<=2),L,(by show(x.da++b).size<=bh;simp;omega),ql,yj,t.out⟩ (by show x.pos<bh;omega)
set_option maxRecDepth 100000 in
theorem abG:UY fun s p=>qp s p/\Pr.dQ s (p+4) 4≠Pr.jm/\Pr.dQ s (p+4) 4≠Pr.dV/\Pr.dQ s (p+4) 4≠Pr.kT/\Pr.dQ s (p+4) 4≠Pr.nD:=by
 rintro W H D K I s x0 x w wr hP hs hK a6 hD ⟨hc,M,N,O,P⟩;intros
 rename_i u v;obtain⟨hx,uJ,tu,hda,ql,yj,hM⟩:=hP;have A:ah _:=fun(w':af)=>uY s x.pos w' (by omega) hs;have HX:ah _:=hx;have HM:ah _:=hM;have Q:ah _:=u;have R:ah _:=v;clear hx hM u v;conv=>arg 2;whnf
 go_wp2_with fail
 refine bz (A.out wr) ?_;rintro e w1 ⟨i,B⟩;have C:ah (PM w w1 W H D K I x):=(HM.out.iU B:PM _ _ _ _ _ _ _ _);clear HM B A;rcases i with⟨S,c1,c2,z,rfl⟩|⟨j,rfl⟩
 ·exact absurd hc S
 obtain⟨ty,f⟩:∃ty,ty=Pr.dQ s (x.pos+4) 4:=⟨_,rfl⟩;obtain⟨k,l⟩:∃k,k=Pr.dQ s (x.pos+8) (aT s x.pos):=⟨_,rfl⟩;obtain⟨bh,m⟩:∃bh,bh=x.pos+12+aT s x.pos:=⟨_,rfl⟩;unfold xU;rw[<-f,<-l,<-m];have T:=j.2.2.1;have a7:ty.size=4:=by rw[f];exact Pr.gq s _ 4 (by omega)
 have U:k.size=aT s x.pos:=by rw[l];exact Pr.gq s _ _ (by omega)
 have V:bh<=s.size:=by omega
 have a8:x.pos<bh:=by omega
 have a:ah _:=f;have X:ah _:=m;have E:ah _:=j;clear f l m j T U;go_upto_region 4 with fail
 have c:ah _:=C.out.alloc (.cells #[.string ty,.string k] 105);have d:(w1.alloc (.cells #[.string ty,.string k] 105)).heap[w1.heap.size]?=_:=aO w1 (.cells #[.string ty,.string k] 105);clear C;revert c d;generalize (w1.alloc _)=w2;generalize w1.heap.size=cb;intro c d;have c0:w2.cell? ⟨cb,0,none⟩=some (.string ty):=by simpa using(Pr.cell_of d 0).1
 have c1:w2.cell? ⟨cb,1,none⟩=some (.string k):=by simpa using(Pr.cell_of d 1).1
 clear d;obtain⟨⟨p0,p1,p2,p3,p4,p5,p6,p7,p8,p9⟩,k2,k3⟩:=PM.cells c.out;obtain⟨r0,r1,r2,r3,r4,r5,r6,r7,r8,r9⟩:=PM.ER c.out;obtain⟨s0,s1,s2,s3,s4,s5,s6,s7,s8,s9⟩:=PM.soft c.out;obtain⟨Y,Z,a0,a1,a2⟩:=PM.Lt c.out;have F:ah (Pr.Bv s x.pos=bh):=(by have:=X.out;unfold Pr.Bv;omega:_=_);have t1:ty≠Pr.jm:=by rw[a.out];exact M
 have n:ah (Pr.dQ s (x.pos+4) 4≠Pr.jm):=(by rw[<-a.out];exact t1:_≠_);have l1:=lK t1;rw[show Pr.jm.toList=[73,69,78,68]by rw[bD];rfl]at l1;clear t1;have t2:ty≠Pr.dV:=by rw[a.out];exact N
 have o:ah (Pr.dQ s (x.pos+4) 4≠Pr.dV):=(by rw[<-a.out];exact t2:_≠_);have l2:=lK t2;rw[show Pr.dV.toList=[73,68,65,84]by rw[bD];rfl]at l2;clear t2;have t3:ty≠Pr.kT:=by rw[a.out];exact O
 have q:ah (Pr.dQ s (x.pos+4) 4≠Pr.kT):=(by rw[<-a.out];exact t3:_≠_);have l3:=lK t3;rw[show Pr.kT.toList=[80,76,84,69]by rw[bD];rfl]at l3;clear t3;have t4:ty≠Pr.nD:=by rw[a.out];exact P
 have r:ah (Pr.dQ s (x.pos+4) 4≠Pr.nD):=(by rw[<-a.out];exact t4:_≠_);have l4:=lK t4;rw[show Pr.nD.toList=[116,82,78,83]by rw[bD];rfl]at l4;clear t4;have h0:0<ty.size:=by omega
 obtain⟨b,G⟩:∃b,ty[0].toNat=b:=⟨_,rfl⟩;have J:ah (aA s (x.pos+4)=b):=(by have t:=dL ty 0 h0;rw[G,a.out,<-MX,VE s (x.pos+4) (x.pos+4+4) 0 (by omega) (by have:=E.out.1;omega)]at t;exact t:_=_)
 have a9:b<256:=by rw[<-G];exact BA _
 have L:ah (97<=b->∀y,qY s K D x0 y↔qY s K D ⟨bh,if x.bW=1 then 2 else x.bW,x.pl,x.tr,x.pb,x.tb,x.da⟩ y):=(fun t y=>(HX.out y).trans ⟨fun h=>by have h4:=(Lu h n.out o.out q.out r.out).2;rw[F.out]at h4;exact h4,fun h=> .other E.out n.out o.out q.out r.out (by rw[J.out];exact t) (by rw[F.out];exact h)⟩:_);have a3:ah (b<97->¬ ∃y,qY s K D x0 y):=(fun h=>(fun⟨y,hy⟩=>by have t:=(Lu ((HX.out y).1 hy) n.out o.out q.out r.out).1;rw[J.out]at t;omega):_)
 by_cases a4:b<97
 ·have a5:(b:Int)<97:=by omega
  rcases(by omega:x.bW=0\/x.bW=1\/x.bW=2)with g|g|g
  all_goals
   rw[g];go_wp2_with fail
   refine R.out false ⟨x.pos,x.bW,x.pl,x.tr,x.pb,x.tb,x.da⟩ _ (PM.ret (c.out.as rfl rfl rfl rfl rfl)) (fun _=>a3.out a4) (fun e=>Bool.noConfusion e)
 ·have a5:¬((b:Int)<97):=by omega
  clear r0 r1 r2 r3 r4 r5 r6 r7 r8 r9 s0 s1 s2 s3 s4 s5 s6 s7 s8 s9 Y Z a0 a1 a2;rcases(by omega:x.bW=0\/x.bW=1\/x.bW=2)with g|g|g
  all_goals
   have HE:ah _:=g;rw[g];go_wp2_with fail
   exact Q.out ⟨bh,if x.bW=1 then 2 else x.bW,x.pl,x.tr,x.pb,x.tb,x.da⟩ _ _ _ rfl (by show Value.int .i64 _= .int .i64 (((if x.bW=1 then 2 else x.bW:Nat)):Int);rw[HE.out];rfl) ⟨L.out (by omega),by show(if x.bW=1 then 2 else x.bW)<=2;rw[HE.out];decide,V,by show x.da.size<=bh;omega,ql,yj,c.out.as rfl rfl rfl rfl rfl⟩ (by show x.pos<bh;omega)
end h_
end Go.Proofs.YtephkcdbnogdhaaGreatDoor
