import Derived.Test.YtephkcdbnogdhaaGreatDoorM18
set_option linter.unusedVariables false
set_option maxHeartbeats 40000000
set_option maxRecDepth 10000
namespace Go.Proofs.YtephkcdbnogdhaaGreatDoor
open Go.Proofs.Tryz
open Go renaming World->af,Value->ay,Calls->aF
open Go.RowKit renaming Hid->ah,Below->aJ
namespace h_
open Go.RowKit Rf Cr
open Pr (PS qY Oq Jd)
set_option maxRecDepth 100000 in
theorem adv:UY fun s p=>qp s p/\Pr.dQ s (p+4) 4=Pr.kT:=by
 rintro W H D K I s x0 x w wr hP hs hK b6 hD ⟨hc,r⟩;intros
 rename_i L M;obtain⟨hx,uJ,tu,hda,ql,yj,hM⟩:=hP;have N:ah _:=fun(w':af)=>uY s x.pos w' (by omega) hs;have HX:ah _:=hx;have HM:ah _:=hM;have a1:ah _:=L;have O:ah _:=M;clear hx hM L M;conv=>arg 2;whnf
 go_wp2_with fail
 refine bz (N.out wr) ?_;rintro e w1 ⟨t,P⟩;have Q:ah (PM w w1 W H D K I x):=(HM.out.iU P:PM _ _ _ _ _ _ _ _);clear HM P N;rcases t with⟨a2,c1,c2,z,rfl⟩|⟨u,rfl⟩
 ·exact absurd hc a2
 obtain⟨ty,j⟩:∃ty,ty=Pr.dQ s (x.pos+4) 4:=⟨_,rfl⟩;obtain⟨a,k⟩:∃a,a=Pr.dQ s (x.pos+8) (aT s x.pos):=⟨_,rfl⟩;obtain⟨bh,A⟩:∃bh,bh=x.pos+12+aT s x.pos:=⟨_,rfl⟩;unfold xU;rw[<-j,<-k,<-A];have a3:=u.2.2.1;have b7:ty.size=4:=by rw[j];exact Pr.gq s _ 4 (by omega)
 have R:a.size=aT s x.pos:=by rw[k];exact Pr.gq s _ _ (by omega)
 have a4:bh<=s.size:=by omega
 have b8:x.pos<bh:=by omega
 have b9:x.pos+a.size<=bh:=by omega
 have l:ah _:=j;have S:ah _:=k;have a5:ah _:=A;have a6:ah _:=R;have a7:ah _:=u;clear j k A u a3 R;go_upto_region 4 with fail
 have d:ah _:=Q.out.alloc (.cells #[.string ty,.string a] 105);have i:(w1.alloc (.cells #[.string ty,.string a] 105)).heap[w1.heap.size]?=_:=aO w1 (.cells #[.string ty,.string a] 105);clear Q;revert d i;generalize (w1.alloc _)=w2;generalize w1.heap.size=cb;intro d i;have c0:w2.cell? ⟨cb,0,none⟩=some (.string ty):=by simpa using(Pr.cell_of i 0).1
 have c1:w2.cell? ⟨cb,1,none⟩=some (.string a):=by simpa using(Pr.cell_of i 1).1
 have c3:ah (cb<w2.heap.size):=(Pr.ai i:_<_);clear i;obtain⟨⟨p0,p1,p2,p3,p4,p5,p6,p7,p8,p9⟩,k2,k3⟩:=PM.cells d.out;obtain⟨r0,r1,r2,r3,r4,r5,r6,r7,r8,r9⟩:=PM.ER d.out;obtain⟨s0,s1,s2,s3,s4,s5,s6,s7,s8,s9⟩:=PM.soft d.out;obtain⟨a8,a9,b0,b1,b2⟩:=PM.Lt d.out;have T:ah (Pr.Bv s x.pos=bh):=(by have:=a5.out;unfold Pr.Bv;omega:_=_);have t1:ty≠Pr.jm:=by rw[l.out,r];decide
 have l1:=lK t1;rw[show Pr.jm.toList=[73,69,78,68]by rw[bD];rfl]at l1;clear t1;have t2:ty≠Pr.dV:=by rw[l.out,r];decide
 have l2:=lK t2;rw[show Pr.dV.toList=[73,68,65,84]by rw[bD];rfl]at l2;clear t2;have t3:ty=Pr.kT:=by rw[l.out];exact r
 have m:ah (Pr.dQ s (x.pos+4) 4=Pr.kT):=(by rw[<-l.out];exact t3:_=_);subst t3;clear l1 l2;unfold Pr.kT at*;rcases(by omega:1<=x.bW\/x.bW=0)with e|e
 ·have HE:ah _:=e;rcases(by omega:x.bW=1\/x.bW=2)with e2|e2
  all_goals
   rw[e2];go_wp2_with fail
   refine O.out false ⟨x.pos,x.bW,x.pl,x.tr,x.pb,x.tb,x.da⟩ _ (PM.ret (d.out.as rfl rfl rfl rfl rfl)) (fun _=>(fun⟨y,hy⟩=>by have G:=(IE ((HX.out y).1 hy) m.out).1.1;have h2:=HE.out;omega)) (fun e=>Bool.noConfusion e)
 ·have HE:ah _:=e;have U:ah (Jd K D x (aT s x.pos)↔Jd K D x a.size):=(by rw[a6.out]:_↔_);have c:ah _:=adr K D x a.size e;obtain⟨g,V⟩:∃g:Bool,g=true↔¬Jd K D x a.size:=by
   classical exact⟨decide (¬Jd K D x a.size),by simp⟩
  have b:ah _:=V;have X:ah (∀w',aF prog 46 #[.int .i64 (D:Int)] w' fun e b3=>e= .returned (.int .i64 ((pw D:Nat):Int))/\b3=w'):=(fun w'=>kW.uo D (D:Int) rfl w' (by omega):∀w',_);rw[e];clear V;go_upto_region 19 with fail
  go_cut [149]from 18 to 187 (fun v wx=>v= .bool g/\wx=w2)
  case first=>
   clear r0 r1 r2 r3 r4 r5 r6 r7 r8 r9 s0 s1 s2 s3 s4 s5 s6 s7 s8 s9 a8 a9 b0 b1 b2 p0 p1 p2 p3 p4 p5 p6 p9;by_cases B:x.pb=true
   ·rw[B]at p7;have f:ah (g=true):=b.out.2 (c.out.2 (.inl B));go_wp2_with fail
    go_meet
    case rel=>exact⟨by rw[f.out],rfl⟩
   have B:x.pb=false:=by simpa using B
   rw[B]at p7;by_cases C:x.tb=true
   ·rw[C]at p8;have f:ah (g=true):=b.out.2 (c.out.2 (.inr (.inl C)));go_wp2_with fail
    go_meet
    case rel=>exact⟨by rw[f.out],rfl⟩
   have C:x.tb=false:=by simpa using C
   rw[C]at p8;have Y:ah _:=B;have Z:ah _:=C;clear B C;by_cases n:K=0
   ·have k0:((K:Int)==0)=true:=by rw[iV];omega
    have f:ah (g=true):=b.out.2 (c.out.2 (.inr (.inr (.inl n))));clear n;go_wp2_with fail
    go_meet
    case rel=>exact⟨by rw[f.out],rfl⟩
   have k0:((K:Int)==0)=false:=by rw[ax];omega
   by_cases q:K=4
   ·have k4:((K:Int)==4)=true:=by rw[iV];omega
    have f:ah (g=true):=b.out.2 (c.out.2 (.inr (.inr (.inr (.inl q)))));clear q n;go_wp2_with fail
    go_meet
    case rel=>exact⟨by rw[f.out],rfl⟩
   have k4:((K:Int)==4)=false:=by rw[ax];omega
   by_cases E:a.size%3≠0
   ·have i5:((a.size:Int)%3 !=0)=true:=by rw[dG];omega
    have f:ah (g=true):=b.out.2 (c.out.2 (.inr (.inr (.inr (.inr (.inl E))))));clear E q n;go_wp2_with fail
    go_meet
    case rel=>exact⟨by rw[f.out],rfl⟩
   have i5:((a.size:Int)%3 !=0)=false:=by rw[bn];omega
   by_cases J:a.size/3<1
   ·have i6:(a.size:Int)/3<1:=by omega
    have f:ah (g=true):=b.out.2 (c.out.2 (.inr (.inr (.inr (.inr (.inr (.inl J)))))));clear J E q n;go_wp2_with fail
    go_meet
    case rel=>exact⟨by rw[f.out],rfl⟩
   have i6:¬((a.size:Int)/3<1):=by omega
   by_cases g7:256<a.size/3
   ·have i7:256<(a.size:Int)/3:=by omega
    have f:ah (g=true):=b.out.2 (c.out.2 (.inr (.inr (.inr (.inr (.inr (.inr (.inl g7))))))));clear g7 J E q n;go_wp2_with fail
    go_meet
    case rel=>exact⟨by rw[f.out],rfl⟩
   have i7:¬(256<(a.size:Int)/3):=by omega
   by_cases g8:K=3
   ·have b4:((K:Int)==3)=true:=by rw[iV];omega
    by_cases g9:pw D<a.size/3
    ·have i9:decide (((pw D:Nat):Int)<(a.size:Int)/3)=true:=aZ (by omega);have f:ah (g=true):=b.out.2 (c.out.2 (.inr (.inr (.inr (.inr (.inr (.inr (.inr ⟨g8,g9⟩))))))));clear g9 g8 g7 J E q n;go_wp2_with fail
     refine bz (X.out _) ?_;rintro e w3 ⟨rfl,rfl⟩;go_wp2_with fail
     go_meet
     case rel=>exact⟨by rw[f.out],rfl⟩
    ·have i9:decide (((pw D:Nat):Int)<(a.size:Int)/3)=false:=aS (by omega);have f:ah (g=false):=(by
      cases o:g with
      |false=>rfl
      |true=>have G:=c.out.1 (b.out.1 o);rw[Y.out,Z.out]at G;rcases G with h|h|h|h|h|h|h|h;all_goals first|(exact Bool.noConfusion h)|omega:_=_)
     clear g9 g8 g7 J E q n;go_wp2_with fail
     refine bz (X.out _) ?_;rintro e w3 ⟨rfl,rfl⟩;go_wp2_with fail
     go_meet
     case rel=>exact⟨by rw[f.out],rfl⟩
   ·have b4:((K:Int)==3)=false:=by rw[ax];omega
    have f:ah (g=false):=(by
     cases o:g with
     |false=>rfl
     |true=>have G:=c.out.1 (b.out.1 o);rw[Y.out,Z.out]at G;rcases G with h|h|h|h|h|h|h|h;all_goals first|(exact Bool.noConfusion h)|omega:_=_)
    clear g8 g7 J E q n;go_wp2_with fail
    go_meet
    case rel=>exact⟨by rw[f.out],rfl⟩
  case rest=>
   obtain⟨rfl,F⟩:=hcut;have F:=F.symm;subst F;cases o:g with
   |true=>
    have HN:ah _:=o;clear o;go_wp2_with fail
    refine O.out false ⟨x.pos,x.bW,x.pl,x.tr,x.pb,x.tb,x.da⟩ _ (PM.ret (d.out.as rfl rfl rfl rfl rfl)) (fun _=>(fun⟨y,hy⟩=>(b.out.1 HN.out) (U.out.1 (IE ((HX.out y).1 hy) m.out).1))) (fun e=>Bool.noConfusion e)
   |false=>
    have HN:ah (Jd K D x (aT s x.pos)):=(by
     refine U.out.2 ?_;by_cases h:Jd K D x a.size
     ·exact h
     ·rw[b.out.2 h]at o;exact Bool.noConfusion o:Jd _ _ _ _)
    have b5:ah (PM w ((w2.setCell ⟨w.heap.size+2,7,none⟩ (.bool true)).setCell ⟨w.heap.size+2,5,none⟩ (.string a)) W H D K I ⟨bh,x.bW,a,x.tr,true,x.tb,x.da⟩):=((d.out.set (y:=⟨x.pos,x.bW,x.pl,x.tr,true,x.tb,x.da⟩) 7 _ (by simp[oI])).set 5 _ (by simp[oI]):PM _ _ _ _ _ _ _ _);have a0:ah (∀y,qY s K D x0 y↔qY s K D ⟨bh,x.bW,a,x.tr,true,x.tb,x.da⟩ y):=(fun y=>(HX.out y).trans ⟨fun h=>by have h3:=(IE h m.out).2;rw[T.out,<-S.out]at h3;exact h3,fun h=> .Bj a7.out m.out HN.out (by rw[T.out,<-S.out];exact h)⟩:_);clear o;go_wp2_with fail
    exact a1.out ⟨bh,x.bW,a,x.tr,true,x.tb,x.da⟩ _ _ _ rfl (by show Value.int .i64 _= .int .i64 ((x.bW:Nat):Int);rw[HE.out];rfl) ⟨a0.out,uJ,a4,by show x.da.size<=bh;omega,by show a.size<=s.size;omega,yj,b5.out⟩ (by show x.pos<bh;omega)
end h_
namespace h_
open Go.RowKit Rf Cr
attribute [local go_sem] Qt.qd
theorem IJ(W H D K I:Nat):oQ W H D K I= .agg #[.int .i64 (W:Int),.int .i64 (H:Int),.int .i64 (D:Int),.int .i64 (K:Int),.int .i64 (I:Int)]:=rfl
theorem YF{x y:ByteArray}(h:x≠y):(x.toList==y.toList)=false:=by rw[ax];intro e;rw[bD,bD]at e;exact h (oJ (Array.toList_inj.1 e))
def abL(d:ByteArray):ay:=oQ (aT d 0) (aT d 4) (aA d 8) (aA d 9) (aA d 12)
theorem YG(ty d:ByteArray)(h:¬(ty=Pr.mP/\d.size=13))(w:af):
 aF prog 52 #[.agg #[.string ty,.string d]] w fun e w'=>e= .returned (.tuple #[oQ 0 0 0 0 0,.bool false])/\aJ w.heap.size w w':=by
 rw[IJ];by_cases a:ty=Pr.mP
 ·have f:d.size≠13:=fun e=>h ⟨a,e⟩;have b:((d.size:Int) !=13)=true:=by rw[dG];omega
  subst a;unfold Pr.mP;go_enter func52,ntmps52
  go_wp2_with fail
  refine aI (v:= .tuple #[.agg #[.int .i64 0,.int .i64 0,.int .i64 0,.int .i64 0,.int .i64 0],.bool false]) (by simp[results,results52,go_sem]) rfl ?_;exact⟨rfl,((aP w.heap.size w).alloc (ag _) _).alloc (by simp) _⟩
 ·have c:(ty.toList==([73,72,68,82]:List UInt8))=false:=by
   have:=YF a;rw[show Pr.mP.toList=[73,72,68,82]by rw[bD];rfl]at this;exact this
  clear h;go_enter func52,ntmps52
  go_wp2_with fail
  refine aI (v:= .tuple #[.agg #[.int .i64 0,.int .i64 0,.int .i64 0,.int .i64 0,.int .i64 0],.bool false]) (by simp[results,results52,go_sem]) rfl ?_;exact⟨rfl,((aP w.heap.size w).alloc (ag _) _).alloc (by simp) _⟩
theorem RD(K:Nat)(h:K<7):(Pr.uZ K).size<=1000:=by rcases(by omega:K=0\/K=1\/K=2\/K=3\/K=4\/K=5\/K=6)with rfl|rfl|rfl|rfl|rfl|rfl|rfl<;>decide
theorem Va(D:Nat):(pq D).size<=1000:=by
 unfold pq;split
 ·rw[vg,vg];exact(by decide:2+1+1<=1000)
 ·rw[vg,vg];exact(by decide:1+1+1<=1000)
theorem Vb(d:ByteArray)(hd:d.size=13)(B:Bool)(y:B=true↔Pr.headD d)(w:af):
 aF prog 52 #[.agg #[.string Pr.mP,.string d]] w fun e w'=>e= .returned (.tuple #[abL d,.bool B])/\aJ w.heap.size w w':=by
 have b8:ah (B=true↔Pr.headD d):=(y:_↔_);have b9:ah (Pr.headD d↔aA d 9<7/\aA d 8<17/\RZ (Pr.uZ (aA d 9)) (pq (aA d 8))/\(0<aT d 0/\0<aT d 4/\aT d 0<=2147483647/\aT d 4<=2147483647)/\aA d 10=0/\aA d 11=0/\aA d 12<2):=(Iff.rfl:_↔_);clear y;have c5:=fun w'=>yH d w' (by omega);have V:=fun w'=>yH (d.extract 4 d.size) w' (by simp;omega);rw[su]at V;obtain⟨G,c6⟩:∃x,d.extract 4 d.size=x:=⟨_,rfl⟩;rw[c6]at V;rw[hd]at c6;have c7:ah _:=c5;have c8:ah _:=V;clear c5 V;have p8:8<d.size:=by omega
 have p9:9<d.size:=by omega
 have X:10<d.size:=by omega
 have Y:11<d.size:=by omega
 have e1:12<d.size:=by omega
 have e8:=(dL d 8 p8).symm;have e9:=(dL d 9 p9).symm;have b0:=(dL d 10 X).symm;have b1:=(dL d 11 Y).symm;have f8:=(dL d 12 e1).symm;have y8:=fC d 8;have y9:=fC d 9;have b2:=fC d 10;have b3:=fC d 11;have f9:=fC d 12;unfold abL;rw[IJ];unfold Pr.mP;have l0:=fV d 0;have l4:=fV d 4;generalize aT d 0=W at*;generalize aT d 4=H at*;generalize aA d 8=D at*;generalize aA d 9=K at*;generalize aA d 10=r at*;generalize aA d 11=s at*;generalize aA d 12=I at*;go_enter func52,ntmps52
 go_upto_region 4 with fail
 have HZ:ah (((w.alloc (.cells #[.string ⟨#[73,72,68,82]⟩,.string d] 105)).alloc (.cells #[.int .i64 0,.int .i64 0,.int .i64 0,.int .i64 0,.int .i64 0] 109)).heap[w.heap.size+1]?=some (.cells #[.int .i64 0,.int .i64 0,.int .i64 0,.int .i64 0,.int .i64 0] 109 (0,0))):=(by have:=aO (w.alloc (.cells #[.string ⟨#[73,72,68,82]⟩,.string d] 105)) (.cells #[.int .i64 0,.int .i64 0,.int .i64 0,.int .i64 0,.int .i64 0] 109);rw[show(w.alloc (.cells #[.string ⟨#[73,72,68,82]⟩,.string d] 105)).heap.size=w.heap.size+1 by simp]at this;exact this:_=_)
 have J:ah (aJ w.heap.size w ((w.alloc (.cells #[.string ⟨#[73,72,68,82]⟩,.string d] 105)).alloc (.cells #[.int .i64 0,.int .i64 0,.int .i64 0,.int .i64 0,.int .i64 0] 109))):=(((aP w.heap.size w).alloc (ag _) _).alloc (by simp) _:aJ _ _ _);revert HZ J;generalize ((w.alloc _).alloc _)=w1;intro HZ J;have M:ah (w.heap.size+1<w1.heap.size):=(Pr.ai HZ.out:_<_);have a0:ah (∃h:10<d.size,d[10].toNat=r):=(⟨X,b0⟩:∃h:10<d.size,d[10].toNat=r);have a8:ah (∃h:11<d.size,d[11].toNat=s):=(⟨Y,b1⟩:∃h:11<d.size,d[11].toNat=s);have a9:ah (r<256/\s<256):=(⟨b2,b3⟩:_/\_);clear b2 b3 b0 b1 X Y;go_cut [5] (fun v wx=> ∃hb,v= .pointer (some ⟨hb,0,none⟩)/\wx.heap[hb]?=some (.cells #[.int .i64 (W:Int),.int .i64 (H:Int),.int .i64 (D:Int),.int .i64 (K:Int),.int .i64 (I:Int)] 109 (0,0))/\wx.heap[w.heap.size+1]?=some (.cells #[.int .i64 0,.int .i64 0,.int .i64 0,.int .i64 0,.int .i64 0] 109 (0,0))/\w.heap.size+1<hb/\aJ w.heap.size w wx)
 case first=>
  refine Qt.Ac (w1:=w1.alloc (.cells #[.int .i64 0,.int .i64 0,.int .i64 0,.int .i64 0,.int .i64 0] 109)) (vp:= .pointer (some ⟨w1.heap.size,0,none⟩)) 15 (by kernel_rfl) (by kernel_rfl) rfl ?_ ?_
  ·intro a m K' hK;unfold wpOp;go_simp
   exact .inl (hK m)
  ·simp only[List.take_succ_cons,List.take_zero,List.drop_succ_cons,List.drop_zero]
   repeat (
    refine Qt.abK (fun K hK=> ?_);go_simp
    first
     |(refine hK _ ?_;clear hK K)
     |(apply Exists.intro
       refine⟨fun _=> ?_,hK _ ?_⟩
       ((go_at_call 90;(first|with_reducible exact c7.out _|with_reducible exact c8.out _)))
       clear hK K))
   refine Qt.ady ?_;intro m;have A:ah (((w1.alloc (.cells #[.int .i64 0,.int .i64 0,.int .i64 0,.int .i64 0,.int .i64 0] 109)).drewN m).heap[w1.heap.size]?=some (.cells #[.int .i64 0,.int .i64 0,.int .i64 0,.int .i64 0,.int .i64 0] 109 (0,0))):=(aO w1 _:_=_);have b4:ah (((w1.alloc (.cells #[.int .i64 0,.int .i64 0,.int .i64 0,.int .i64 0,.int .i64 0] 109)).drewN m).heap[w.heap.size+1]?=some (.cells #[.int .i64 0,.int .i64 0,.int .i64 0,.int .i64 0,.int .i64 0] 109 (0,0))):=((jT w1 _ M.out).trans HZ.out:_=_);have c:ah (aJ w.heap.size w ((w1.alloc (.cells #[.int .i64 0,.int .i64 0,.int .i64 0,.int .i64 0,.int .i64 0] 109)).drewN m)):=(kW.cZ (J.out.alloc (aK (by omega) (BB M.out)) _):aJ _ _ _);revert A b4 c;generalize (w1.alloc _).drewN m=w2;generalize c9:w1.heap.size=hb;intro A b4 c;rw[c9]at M;clear HZ J c9;have c0:w2.cell? ⟨hb,0,none⟩=some (.int .i64 0):=by simpa using(Pr.cell_of A.out 0).1
   have c1:w2.cell? ⟨hb,1,none⟩=some (.int .i64 0):=by simpa using(Pr.cell_of A.out 1).1
   have c2:w2.cell? ⟨hb,2,none⟩=some (.int .i64 0):=by simpa using(Pr.cell_of A.out 2).1
   have c3:w2.cell? ⟨hb,3,none⟩=some (.int .i64 0):=by simpa using(Pr.cell_of A.out 3).1
   have c4:w2.cell? ⟨hb,4,none⟩=some (.int .i64 0):=by simpa using(Pr.cell_of A.out 4).1
   have f0:=(Pr.cell_of A.out 0).2;have f1:=(Pr.cell_of A.out 1).2;have f2:=(Pr.cell_of A.out 2).2;have f3:=(Pr.cell_of A.out 3).2;have f4:=(Pr.cell_of A.out 4).2;go_wp2_with fail
   go_meet
   case rel=>
    have e2:=M.out;refine⟨hb,rfl,?_,?_,e2,?_⟩
    ·exact(Pr.bG (Pr.bG (Pr.bG (Pr.bG (Pr.bG A.out 0 _) 1 _) 2 _) 3 _) 4 _).trans (by simp)
    ·exact(Pr.aB 4 _ (by omega)).trans ((Pr.aB 3 _ (by omega)).trans ((Pr.aB 2 _ (by omega)).trans ((Pr.aB 1 _ (by omega)).trans ((Pr.aB 0 _ (by omega)).trans b4.out))))
    ·exact lV (lV (lV (lV (lV c.out _ 0 (by omega) _) _ 1 (by omega) _) _ 2 (by omega) _) _ 3 (by omega) _) _ 4 (by omega) _
 case rest=>
  obtain⟨hb,rfl,i,C,d5,E⟩:=hcut;have z0:wc.cell? ⟨hb,0,none⟩=some (.int .i64 (W:Int)):=by simpa using(Pr.cell_of i 0).1
  have z1:wc.cell? ⟨hb,1,none⟩=some (.int .i64 (H:Int)):=by simpa using(Pr.cell_of i 1).1
  have z2:wc.cell? ⟨hb,2,none⟩=some (.int .i64 (D:Int)):=by simpa using(Pr.cell_of i 2).1
  have z3:wc.cell? ⟨hb,3,none⟩=some (.int .i64 (K:Int)):=by simpa using(Pr.cell_of i 3).1
  have z4:wc.cell? ⟨hb,4,none⟩=some (.int .i64 (I:Int)):=by simpa using(Pr.cell_of i 4).1
  clear c7 c8 HZ J M;go_upto_region 6 with fail
  generalize b5:wc.alloc _=w5;have h5:=(gY (fun x:af=>x.heap[wc.heap.size]?) b5).symm;simp only[heap_alloc_new]at h5;have d6:ah (∀k,k<7->w5.cell? ⟨wc.heap.size,k,none⟩=some (.string (Pr.uZ k))):=(fun k hk=>by rw[(Pr.cell_of h5 k).1];rcases(by omega:k=0\/k=1\/k=2\/k=3\/k=4\/k=5\/k=6)with rfl|rfl|rfl|rfl|rfl|rfl|rfl<;>rfl:∀k,_)
  have Z:aJ wc.heap.size wc w5:=by rw[<-b5];exact(aP _ _).alloc (ag _) _
  have j:ah (w5.heap[hb]?=some (.cells #[.int .i64 (W:Int),.int .i64 (H:Int),.int .i64 (D:Int),.int .i64 (K:Int),.int .i64 (I:Int)] 109 (0,0))):=((Z.block _ (Pr.ai i)).trans i:_=_);have c:ah (w5.heap[w.heap.size+1]?=some (.cells #[.int .i64 0,.int .i64 0,.int .i64 0,.int .i64 0,.int .i64 0] 109 (0,0))):=((Z.block _ (Pr.ai C)).trans C:_=_);have t:ah (aJ w.heap.size w w5):=(E.trans (Z.mono E.size):aJ _ _ _);have e3:ah _:=d5;have d7:ah (wc.heap.size<w5.heap.size):=(Pr.ai h5:_<_);generalize wc.heap.size=gw at*;clear b5 h5 Z i C E z0 z1 z2 z3 z4 d5;obtain⟨N,d8⟩:∃N:Bool,N=true↔(K<7/\D<17/\RZ (Pr.uZ K) (pq D)):=by classical exact⟨decide (K<7/\D<17/\RZ (Pr.uZ K) (pq D)),by simp⟩
  have O:ah _:=d8;clear d8;have z2:w5.cell? ⟨hb,2,none⟩=some (.int .i64 (D:Int)):=by simpa using(Pr.cell_of j.out 2).1
  have z3:w5.cell? ⟨hb,3,none⟩=some (.int .i64 (K:Int)):=by simpa using(Pr.cell_of j.out 3).1
  go_cut [7] (fun v wx=>v= .bool N/\wx.heap[hb]?=some (.cells #[.int .i64 (W:Int),.int .i64 (H:Int),.int .i64 (D:Int),.int .i64 (K:Int),.int .i64 (I:Int)] 109 (0,0))/\wx.heap[w.heap.size+1]?=some (.cells #[.int .i64 0,.int .i64 0,.int .i64 0,.int .i64 0,.int .i64 0] 109 (0,0))/\aJ w.heap.size w wx)
  case first=>
   by_cases q:K<7
   ·have i1:(K:Int)<7:=by omega
    by_cases P:D<17
    ·have i2:(D:Int)<17:=by omega
     have zw:=d6.out K q;have e4:ah (∀w',aF prog 93 #[.int .i64 (D:Int)] w' fun e b6=>e= .returned (.string (pq D))/\aJ w'.heap.size w' b6):=(fun w'=>JF D w' (by omega):∀w',_);have e5:ah (∀w',aF prog 92 #[.string (Pr.uZ K),.string (pq D)] w' fun e b6=>e= .returned (.bool N)/\b6=w'):=(fun w'=>U_ (Pr.uZ K) (pq D) N (by rw[O.out];exact⟨fun h=>h.2.2,fun h=>⟨q,P,h⟩⟩) w' (RD K q) (Va D):∀w',_);generalize Pr.uZ K=L at*;generalize pq D=DW at*
     go_region_held3 (fun w'=>w'.cell? ⟨hb,2,none⟩=some (.int .i64 (D:Int))/\w'.cell? ⟨hb,3,none⟩=some (.int .i64 (K:Int))/\w'.cell? ⟨gw,K,none⟩=some (.string L)) (first|go_keep|(go_split_ands;refine⟨?_,?_,?_⟩<;>assumption)) (first
      |(go_at_call 93;refine bz (e4.out _) ?_;rintro e w6 ⟨rfl,p⟩;obtain⟨y2,y3,yw⟩:=(show w6.cell? ⟨hb,2,none⟩=some (.int .i64 (D:Int))/\w6.cell? ⟨hb,3,none⟩=some (.int .i64 (K:Int))/\w6.cell? ⟨gw,K,none⟩=some (.string L)from⟨(p.cell (Pr.ai j.out)).trans z2,(p.cell (Pr.ai j.out)).trans z3,(p.cell d7.out).trans zw⟩))
      |(go_at_call 92;refine bz (e5.out _) ?_;rintro e w7 ⟨rfl,rfl⟩))
     all_goals
      have e6:ah (w7.heap[hb]?=some (.cells #[.int .i64 (W:Int),.int .i64 (H:Int),.int .i64 (D:Int),.int .i64 (K:Int),.int .i64 (I:Int)] 109 (0,0))):=((p.block _ (Pr.ai j.out)).trans j.out:_=_);have e7:ah (w7.heap[w.heap.size+1]?=some (.cells #[.int .i64 0,.int .i64 0,.int .i64 0,.int .i64 0,.int .i64 0] 109 (0,0))):=((p.block _ (Pr.ai c.out)).trans c.out:_=_);have f5:ah (aJ w.heap.size w w7):=(t.out.trans (by have hz:=p;exact⟨hz.os,hz.tape,hz.output,hz.size,fun k hk=>hz.block k (bu hk t.out.size)⟩):aJ _ _ _);clear p;go_wp2_with fail
      go_meet
      case rel=>exact⟨rfl,e6.out,e7.out,f5.out⟩
    ·have i2:¬((D:Int)<17):=by omega
     have F:N=false:=by
      cases y:N with
      |false=>rfl
      |true=>exact absurd (O.out.1 y).2.1 P
     clear q P;go_quiet (fail)
     go_wp2_with fail
     go_meet
     case rel=>exact⟨by rw[F],j.out,c.out,kW.cZ t.out⟩
   ·have i1:¬((K:Int)<7):=by omega
    have F:N=false:=by
     cases y:N with
     |false=>rfl
     |true=>exact absurd (O.out.1 y).1 q
    clear q;go_quiet (fail)
    go_wp2_with fail
    go_meet
    case rel=>exact⟨by rw[F],j.out,c.out,kW.cZ t.out⟩
  case rest=>
   clear j c t z2 z3 d6 d7;obtain⟨rfl,i,C,E⟩:=hcut;have z0:wc.cell? ⟨hb,0,none⟩=some (.int .i64 (W:Int)):=by simpa using(Pr.cell_of i 0).1
   have z1:wc.cell? ⟨hb,1,none⟩=some (.int .i64 (H:Int)):=by simpa using(Pr.cell_of i 1).1
   have j:ah _:=i;have c:ah _:=C;have t:ah _:=E;clear i C E;obtain⟨z,d9⟩:∃z:Bool,z=true↔(0<W/\0<H/\W<=2147483647/\H<=2147483647):=⟨decide (0<W/\0<H/\W<=2147483647/\H<=2147483647),by simp⟩;have u:ah _:=d9;clear d9;go_upto_region 7 with fail
   go_cut [8] (fun v wx=>v= .bool z/\wx=wc)
   case first=>
    by_cases Q:0<W
    ·have i0:(0:Int)<(W:Int):=by omega
     by_cases q:0<H
     ·have i1:(0:Int)<(H:Int):=by omega
      by_cases P:W<=2147483647
      ·have i2:(W:Int)<=2147483647:=by omega
       by_cases g3:H<=2147483647
       ·have i3:(H:Int)<=2147483647:=by omega
        have F:z=true:=u.out.2 ⟨Q,q,P,g3⟩;clear Q q P g3;go_wp2_with fail
        go_meet
        case rel=>exact⟨by rw[F],rfl⟩
       ·have i3:¬((H:Int)<=2147483647):=by omega
        have F:z=false:=by
         cases y:z with
         |false=>rfl
         |true=>exact absurd (u.out.1 y).2.2.2 g3
        clear Q q P g3;go_wp2_with fail
        go_meet
        case rel=>exact⟨by rw[F],rfl⟩
      ·have i2:¬((W:Int)<=2147483647):=by omega
       have F:z=false:=by
        cases y:z with
        |false=>rfl
        |true=>exact absurd (u.out.1 y).2.2.1 P
       clear Q q P;go_wp2_with fail
       go_meet
       case rel=>exact⟨by rw[F],rfl⟩
     ·have i1:¬((0:Int)<(H:Int)):=by omega
      have F:z=false:=by
       cases y:z with
       |false=>rfl
       |true=>exact absurd (u.out.1 y).2.1 q
      clear Q q;go_wp2_with fail
      go_meet
      case rel=>exact⟨by rw[F],rfl⟩
    ·have i0:¬((0:Int)<(W:Int)):=by omega
     have F:z=false:=by
      cases y:z with
      |false=>rfl
      |true=>exact absurd (u.out.1 y).1 Q
     clear Q;go_wp2_with fail
     go_meet
     case rel=>exact⟨by rw[F],rfl⟩
   case rest=>
    obtain⟨rfl,b7⟩:=hcut;have b7:=b7.symm;subst b7;obtain⟨X,b0⟩:=a0.out;obtain⟨Y,b1⟩:=a8.out;obtain⟨b2,b3⟩:=a9.out;have z2:wc.cell? ⟨hb,2,none⟩=some (.int .i64 (D:Int)):=by simpa using(Pr.cell_of j.out 2).1
    have z3:wc.cell? ⟨hb,3,none⟩=some (.int .i64 (K:Int)):=by simpa using(Pr.cell_of j.out 3).1
    have z4:wc.cell? ⟨hb,4,none⟩=some (.int .i64 (I:Int)):=by simpa using(Pr.cell_of j.out 4).1
    have r0:wc.cell? ⟨w.heap.size+1,0,none⟩=some (.int .i64 0):=by simpa using(Pr.cell_of c.out 0).1
    have r1:wc.cell? ⟨w.heap.size+1,1,none⟩=some (.int .i64 0):=by simpa using(Pr.cell_of c.out 1).1
    have r2:wc.cell? ⟨w.heap.size+1,2,none⟩=some (.int .i64 0):=by simpa using(Pr.cell_of c.out 2).1
    have r3:wc.cell? ⟨w.heap.size+1,3,none⟩=some (.int .i64 0):=by simpa using(Pr.cell_of c.out 3).1
    have r4:wc.cell? ⟨w.heap.size+1,4,none⟩=some (.int .i64 0):=by simpa using(Pr.cell_of c.out 4).1
    have f0:=(Pr.cell_of c.out 0).2;have f1:=(Pr.cell_of c.out 1).2;have f2:=(Pr.cell_of c.out 2).2;have f3:=(Pr.cell_of c.out 3).2;have f4:=(Pr.cell_of c.out 4).2;have f6:hb≠w.heap.size+1:=by have:=e3.out;omega
    have f7:¬(w.heap.size+1=hb):=fun e=>f6 e.symm;have l:ah (∀b:Bool,(b=true↔(N=true/\z=true/\r=0/\s=0/\I<2))->b=B):=(fun b hb=>by
     have h1:B=true↔b=true:=by
      rw[b8.out,b9.out,hb,O.out,u.out];constructor
      ·rintro⟨a1,a2,a3,a4,a5,a6,a7⟩;exact⟨⟨a1,a2,a3⟩,a4,a5,a6,a7⟩
      ·rintro⟨⟨a1,a2,a3⟩,a4,a5,a6,a7⟩;exact⟨a1,a2,a3,a4,a5,a6,a7⟩
     exact Bool.eq_iff_iff.2 h1.symm:∀b,_)
    clear b8 b9 O u a0 a8 a9
    have f:ah ((((((wc.setCell ⟨w.heap.size+1,0,none⟩ (.int .i64 (W:Int))).setCell ⟨w.heap.size+1,1,none⟩ (.int .i64 (H:Int))).setCell ⟨w.heap.size+1,2,none⟩ (.int .i64 (D:Int))).setCell ⟨w.heap.size+1,3,none⟩ (.int .i64 (K:Int))).setCell ⟨w.heap.size+1,4,none⟩ (.int .i64 (I:Int))).drew.heap[w.heap.size+1]?=some (.cells #[.int .i64 (W:Int),.int .i64 (H:Int),.int .i64 (D:Int),.int .i64 (K:Int),.int .i64 (I:Int)] 109 (0,0))/\aJ w.heap.size w (((((wc.setCell ⟨w.heap.size+1,0,none⟩ (.int .i64 (W:Int))).setCell ⟨w.heap.size+1,1,none⟩ (.int .i64 (H:Int))).setCell ⟨w.heap.size+1,2,none⟩ (.int .i64 (D:Int))).setCell ⟨w.heap.size+1,3,none⟩ (.int .i64 (K:Int))).setCell ⟨w.heap.size+1,4,none⟩ (.int .i64 (I:Int))).drew):=
     (⟨(Pr.bG (Pr.bG (Pr.bG (Pr.bG (Pr.bG c.out 0 _) 1 _) 2 _) 3 _) 4 _).trans (by simp),kW.cZ (n:=1) (lV (lV (lV (lV (lV t.out _ 0 (by omega) _) _ 1 (by omega) _) _ 2 (by omega) _) _ 3 (by omega) _) _ 4 (by omega) _)⟩:_/\_)
    cases p:N with
    |false=>
     have o:B=false:=(l.out false (by rw[p];simp)).symm;subst o;clear l;go_wp2_with fail
     go_region
     go_wp2_with fail
     revert f;generalize World.drew _=w3;intro f;obtain⟨g,R⟩:=f.out;have S:w3.cell? ⟨w.heap.size+1,0,none⟩=some (.int .i64 (W:Int)):=by simpa using(Pr.cell_of g 0).1
     have T:w3.cell? ⟨w.heap.size+1,1,none⟩=some (.int .i64 (H:Int)):=by simpa using(Pr.cell_of g 1).1
     have U:w3.cell? ⟨w.heap.size+1,2,none⟩=some (.int .i64 (D:Int)):=by simpa using(Pr.cell_of g 2).1
     have d3:w3.cell? ⟨w.heap.size+1,3,none⟩=some (.int .i64 (K:Int)):=by simpa using(Pr.cell_of g 3).1
     have G:w3.cell? ⟨w.heap.size+1,4,none⟩=some (.int .i64 (I:Int)):=by simpa using(Pr.cell_of g 4).1
     refine aI (v:= .tuple #[.agg #[.int .i64 (W:Int),.int .i64 (H:Int),.int .i64 (D:Int),.int .i64 (K:Int),.int .i64 (I:Int)],.bool false]) (by simp[results,results52,go_sem,S,T,U,d3,G]<;>omega) rfl ?_;exact⟨rfl,R⟩
    |true=>
     cases e0:z with
     |false=>
      have o:B=false:=(l.out false (by rw[e0];simp)).symm;subst o;clear l;go_wp2_with fail
      go_region
      go_wp2_with fail
      revert f;generalize World.drew _=w3;intro f;obtain⟨g,R⟩:=f.out;have S:w3.cell? ⟨w.heap.size+1,0,none⟩=some (.int .i64 (W:Int)):=by simpa using(Pr.cell_of g 0).1
      have T:w3.cell? ⟨w.heap.size+1,1,none⟩=some (.int .i64 (H:Int)):=by simpa using(Pr.cell_of g 1).1
      have U:w3.cell? ⟨w.heap.size+1,2,none⟩=some (.int .i64 (D:Int)):=by simpa using(Pr.cell_of g 2).1
      have d3:w3.cell? ⟨w.heap.size+1,3,none⟩=some (.int .i64 (K:Int)):=by simpa using(Pr.cell_of g 3).1
      have G:w3.cell? ⟨w.heap.size+1,4,none⟩=some (.int .i64 (I:Int)):=by simpa using(Pr.cell_of g 4).1
      refine aI (v:= .tuple #[.agg #[.int .i64 (W:Int),.int .i64 (H:Int),.int .i64 (D:Int),.int .i64 (K:Int),.int .i64 (I:Int)],.bool false]) (by simp[results,results52,go_sem,S,T,U,d3,G]<;>omega) rfl ?_;exact⟨rfl,R⟩
     |true=>
      by_cases Q:r=0
      ·have i0:((r:Int)==0)=true:=by rw[iV];omega
       by_cases q:s=0
       ·have i1:((s:Int)==0)=true:=by rw[iV];omega
        by_cases P:I<2
        ·have i2:(I:Int)<2:=by omega
         have o:B=true:=(l.out true ⟨fun _=>⟨p,e0,Q,q,P⟩,fun _=>rfl⟩).symm;subst o;clear l Q q;go_wp2_with fail
         go_region
         go_wp2_with fail
         revert f;generalize World.drew _=w3;intro f;obtain⟨g,R⟩:=f.out;have S:w3.cell? ⟨w.heap.size+1,0,none⟩=some (.int .i64 (W:Int)):=by simpa using(Pr.cell_of g 0).1
         have T:w3.cell? ⟨w.heap.size+1,1,none⟩=some (.int .i64 (H:Int)):=by simpa using(Pr.cell_of g 1).1
         have U:w3.cell? ⟨w.heap.size+1,2,none⟩=some (.int .i64 (D:Int)):=by simpa using(Pr.cell_of g 2).1
         have d3:w3.cell? ⟨w.heap.size+1,3,none⟩=some (.int .i64 (K:Int)):=by simpa using(Pr.cell_of g 3).1
         have G:w3.cell? ⟨w.heap.size+1,4,none⟩=some (.int .i64 (I:Int)):=by simpa using(Pr.cell_of g 4).1
         refine aI (v:= .tuple #[.agg #[.int .i64 (W:Int),.int .i64 (H:Int),.int .i64 (D:Int),.int .i64 (K:Int),.int .i64 (I:Int)],.bool true]) (by simp[results,results52,go_sem,S,T,U,d3,G]<;>omega) rfl ?_;exact⟨rfl,R⟩
        ·have i2:¬((I:Int)<2):=by omega
         have o:B=false:=(l.out false (by simp;intros;omega)).symm;subst o;clear l;go_wp2_with fail
         go_region
         go_wp2_with fail
         revert f;generalize World.drew _=w3;intro f;obtain⟨g,R⟩:=f.out;have S:w3.cell? ⟨w.heap.size+1,0,none⟩=some (.int .i64 (W:Int)):=by simpa using(Pr.cell_of g 0).1
         have T:w3.cell? ⟨w.heap.size+1,1,none⟩=some (.int .i64 (H:Int)):=by simpa using(Pr.cell_of g 1).1
         have U:w3.cell? ⟨w.heap.size+1,2,none⟩=some (.int .i64 (D:Int)):=by simpa using(Pr.cell_of g 2).1
         have d3:w3.cell? ⟨w.heap.size+1,3,none⟩=some (.int .i64 (K:Int)):=by simpa using(Pr.cell_of g 3).1
         have G:w3.cell? ⟨w.heap.size+1,4,none⟩=some (.int .i64 (I:Int)):=by simpa using(Pr.cell_of g 4).1
         refine aI (v:= .tuple #[.agg #[.int .i64 (W:Int),.int .i64 (H:Int),.int .i64 (D:Int),.int .i64 (K:Int),.int .i64 (I:Int)],.bool false]) (by simp[results,results52,go_sem,S,T,U,d3,G]<;>omega) rfl ?_;exact⟨rfl,R⟩
       ·have i1:((s:Int)==0)=false:=by rw[ax];omega
        have o:B=false:=(l.out false (by simp[q])).symm;subst o;clear l;go_wp2_with fail
        go_region
        go_wp2_with fail
        revert f;generalize World.drew _=w3;intro f;obtain⟨g,R⟩:=f.out;have S:w3.cell? ⟨w.heap.size+1,0,none⟩=some (.int .i64 (W:Int)):=by simpa using(Pr.cell_of g 0).1
        have T:w3.cell? ⟨w.heap.size+1,1,none⟩=some (.int .i64 (H:Int)):=by simpa using(Pr.cell_of g 1).1
        have U:w3.cell? ⟨w.heap.size+1,2,none⟩=some (.int .i64 (D:Int)):=by simpa using(Pr.cell_of g 2).1
        have d3:w3.cell? ⟨w.heap.size+1,3,none⟩=some (.int .i64 (K:Int)):=by simpa using(Pr.cell_of g 3).1
        have G:w3.cell? ⟨w.heap.size+1,4,none⟩=some (.int .i64 (I:Int)):=by simpa using(Pr.cell_of g 4).1
        refine aI (v:= .tuple #[.agg #[.int .i64 (W:Int),.int .i64 (H:Int),.int .i64 (D:Int),.int .i64 (K:Int),.int .i64 (I:Int)],.bool false]) (by simp[results,results52,go_sem,S,T,U,d3,G]<;>omega) rfl ?_;exact⟨rfl,R⟩
      ·have i0:((r:Int)==0)=false:=by rw[ax];omega
       have o:B=false:=(l.out false (by simp[Q])).symm;subst o;clear l;go_wp2_with fail
       go_region
       go_wp2_with fail
       revert f;generalize World.drew _=w3;intro f;obtain⟨g,R⟩:=f.out;have S:w3.cell? ⟨w.heap.size+1,0,none⟩=some (.int .i64 (W:Int)):=by simpa using(Pr.cell_of g 0).1
       have T:w3.cell? ⟨w.heap.size+1,1,none⟩=some (.int .i64 (H:Int)):=by simpa using(Pr.cell_of g 1).1
       have U:w3.cell? ⟨w.heap.size+1,2,none⟩=some (.int .i64 (D:Int)):=by simpa using(Pr.cell_of g 2).1
       have d3:w3.cell? ⟨w.heap.size+1,3,none⟩=some (.int .i64 (K:Int)):=by simpa using(Pr.cell_of g 3).1
       have G:w3.cell? ⟨w.heap.size+1,4,none⟩=some (.int .i64 (I:Int)):=by simpa using(Pr.cell_of g 4).1
       refine aI (v:= .tuple #[.agg #[.int .i64 (W:Int),.int .i64 (H:Int),.int .i64 (D:Int),.int .i64 (K:Int),.int .i64 (I:Int)],.bool false]) (by simp[results,results52,go_sem,S,T,U,d3,G]<;>omega) rfl ?_;exact⟨rfl,R⟩
end h_
end Go.Proofs.YtephkcdbnogdhaaGreatDoor
