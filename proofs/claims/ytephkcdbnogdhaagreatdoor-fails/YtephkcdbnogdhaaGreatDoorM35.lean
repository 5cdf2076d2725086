import Derived.Test.YtephkcdbnogdhaaGreatDoorM9
import Derived.Test.YtephkcdbnogdhaaGreatDoorM33
import Derived.Test.YtephkcdbnogdhaaGreatDoorM34
set_option linter.unusedVariables false
set_option maxHeartbeats 40000000
set_option maxRecDepth 10000
namespace Go.Proofs.YtephkcdbnogdhaaGreatDoor
open Go.Proofs.Tryz
open Go renaming World->af,Value->ay,Calls->aF,Addr->bP
open Go.RowKit renaming Hid->ah,Below->aJ
namespace h_
open Go.RowKit Rf Cr
open Pr (PS qY ps0 hW hH hD hK hI hIn R_ H0 NU iC ai cell_of bG aB Ec)
def Wy(b:ByteArray)(bM:Nat)(w:af)(e:Ending)(w':af):Prop:=
 (∃P1 st t P2 f gp,Pr.Way b P1 st t P2/\hW b*hH b<=bM/\NU b P1 st t=some f/\e= .returned (.tuple #[.agg #[.int .i64 (hW b:Int),.int .i64 (hH b:Int),.slice (some ⟨gp,0,none⟩) (4*hW b*hH b) (4*hW b*hH b)],.int .i64 0])/\iC w' gp f.dM/\w.heap.size<=gp)\/
 ((H0 b/\bM<hW b*hH b)/\e= .returned (.tuple #[Pr.xh,.int .i64 2]))\/
 ((¬H0 b\/(hW b*hH b<=bM/\¬Pr.Good b))/\e= .returned (.tuple #[Pr.xh,.int .i64 3]))
structure DZ(w wr:af):Prop where
 r:wr.heap[w.heap.size]?=some (.cells #[.int .i64 0,.int .i64 0,.slice none 0 0] 32 (0,0))
 n:wr.heap[w.heap.size+1]?=some (.cells #[.int .i64 0,.int .i64 0,.slice none 0 0] 32 (0,0))
 bl:aJ w.heap.size w wr
theorem DZ.iU{w wr w1:af}(h:DZ w wr)(hb:aJ wr.heap.size wr w1):DZ w w1:=⟨(hb.block _ (ai h.r)).trans h.r,(hb.block _ (ai h.n)).trans h.n,h.bl.trans (hb.mono h.bl.size)⟩
theorem DZ.alloc{w wr:af}(h:DZ w wr)(o:Obj):DZ w (wr.alloc o):=h.iU ((aP _ _).alloc (ag _) _)
theorem DZ.start(w:af):DZ w ((w.alloc (.cells #[.int .i64 0,.int .i64 0,.slice none 0 0] 32)).alloc (.cells #[.int .i64 0,.int .i64 0,.slice none 0 0] 32)):=by
 obtain⟨o,a⟩:∃o:Obj,o= .cells #[.int .i64 0,.int .i64 0,.slice none 0 0] 32:=⟨_,rfl⟩;rw[<-a];have s1:(w.alloc o).heap.size=w.heap.size+1:=by simp
 refine⟨?_,?_,((aP w.heap.size w).alloc (ag _) _).alloc (by omega) _⟩
 ·rw[jT _ _ (by omega),aO,a]
 ·have:=aO (w.alloc o) o;rw[s1]at this;rw[this,a]
theorem DZ.cells{w wr:af}(h:DZ w wr):
 (wr.cell? ⟨w.heap.size,0,none⟩=some (.int .i64 0)/\wr.cell? ⟨w.heap.size,1,none⟩=some (.int .i64 0)/\wr.cell? ⟨w.heap.size,2,none⟩=some (.slice none 0 0))/\
 (wr.cell? ⟨w.heap.size+1,0,none⟩=some (.int .i64 0)/\wr.cell? ⟨w.heap.size+1,1,none⟩=some (.int .i64 0)/\wr.cell? ⟨w.heap.size+1,2,none⟩=some (.slice none 0 0))/\
 (wr.frozen? ⟨w.heap.size,0,none⟩=false/\wr.frozen? ⟨w.heap.size,1,none⟩=false/\wr.frozen? ⟨w.heap.size,2,none⟩=false):=
 ⟨⟨by simpa using(cell_of h.r 0).1,by simpa using(cell_of h.r 1).1,by simpa using(cell_of h.r 2).1⟩,⟨by simpa using(cell_of h.n 0).1,by simpa using(cell_of h.n 1).1,by simpa using(cell_of h.n 2).1⟩,(cell_of h.r 0).2,(cell_of h.r 1).2,(cell_of h.r 2).2⟩
structure CZ(w w3:af):Prop where
 b:w3.heap[w.heap.size]?=some (.cells #[.int .i64 0,.int .i64 0,.slice none 0 0] 32 (0,0))
 bl:aJ w.heap.size w w3
theorem CZ.cells{w wr:af}(h:CZ w wr):wr.cell? ⟨w.heap.size,0,none⟩=some (.int .i64 0)/\wr.cell? ⟨w.heap.size,1,none⟩=some (.int .i64 0)/\wr.cell? ⟨w.heap.size,2,none⟩=some (.slice none 0 0):=
 ⟨by simpa using(cell_of h.b 0).1,by simpa using(cell_of h.b 1).1,by simpa using(cell_of h.b 2).1⟩
theorem DZ.ret{w wr:af}(h:DZ w wr):CZ w (((wr.setCell ⟨w.heap.size,0,none⟩ (.int .i64 0)).setCell ⟨w.heap.size,1,none⟩ (.int .i64 0)).setCell ⟨w.heap.size,2,none⟩ (.slice none 0 0)):=
 ⟨(bG (bG (bG h.r 0 _) 1 _) 2 _).trans (by simp),lV (lV (lV h.bl _ 0 (by omega) _) _ 1 (by omega) _) _ 2 (by omega) _⟩
structure afN(w w3:af)(W H gp N:Nat)(dM:List Nat):Prop where
 b:w3.heap[w.heap.size]?=some (.cells #[.int .i64 (W:Int),.int .i64 (H:Int),.slice (some ⟨gp,0,none⟩) N N] 32 (0,0))
 bl:aJ w.heap.size w w3
 x:iC w3 gp dM
theorem DZ.image{w wr:af}{W H gp N:Nat}{dM:List Nat}(h:DZ w wr)(hx:iC wr gp dM)(a:w.heap.size<gp):afN w (((wr.setCell ⟨w.heap.size,0,none⟩ (.int .i64 (W:Int))).setCell ⟨w.heap.size,1,none⟩ (.int .i64 (H:Int))).setCell ⟨w.heap.size,2,none⟩ (.slice (some ⟨gp,0,none⟩) N N)) W H gp N dM:=
 ⟨(bG (bG (bG h.r 0 _) 1 _) 2 _).trans (by simp),lV (lV (lV h.bl _ 0 (by omega) _) _ 1 (by omega) _) _ 2 (by omega) _,(aB 2 _ (by omega)).trans ((aB 1 _ (by omega)).trans ((aB 0 _ (by omega)).trans hx))⟩
theorem YN(b:ByteArray):Pr.Match b 0 Pr.lu↔8<=b.size/\b.extract 0 8=Pr.lu:=by rw[Pr.LD];have h8:Pr.lu.size=8:=rfl;rw[h8,<-MX]
theorem YO(D K:Nat)(hK:K=0\/K=2\/K=3\/K=4\/K=6):Pr.aQ (D*Pr.bF K)=Rt D K:=by unfold Pr.aQ Rt;rw[Pr.zN K hK,eu D];generalize Pr.bF K*D/8=m;split<;>omega
theorem Vf(b:ByteArray)(W H D K I:Nat)(p:hW b=W)(q:hH b=H)(r:hD b=D)(s:hK b=K)(u:I=hIn b)(v:H0 b):
 (W*H<=1048576->lG D K W H (dX I)=R_ b/\lG D K W H (dX I)<=16777216)/\
 ∀st l,Ec b st l=Pr.qo (Pr.Iy W H D K (hI b) st) ((dX I).map (xR W H)) l (List.replicate (4*W*H) 0):=by
 obtain⟨n,hd,w,c,d⟩:=Pr.pR v;subst p q r s u;refine⟨fun f=> ?_,fun st l=>rfl⟩;have e:lG (hD b) (hK b) (hW b) (hH b) (dX (hIn b))=R_ b:=Pr.XR (hD b) (hK b) (hW b) (hH b) (hI b) n c d;refine⟨e,?_⟩;rw[e];unfold R_;have k:hW b<=1048576:=aK (nT _ d) f;have m:hH b<=1048576:=aK (tV _ c) f;have g:Pr.bF (hK b)<=4:=by rcases n with h|h|h|h|h<;>rw[h]<;>decide
 have i:hD b<=16:=by unfold Pr.jH at hd;omega
 have j:hD b*Pr.bF (hK b)<=64:=bT i g;have a:=Pr.KZ (hW b) (hH b) (hI b) c d k m;have x:=Pr.Qw (hD b*Pr.bF (hK b)) j (Pr.dZ (hW b) (hH b) (hI b)) (fun t o=>⟨(a t o).1.1,(a t o).1.2.2.1⟩);rw[Pr.Hq]at x;omega
theorem N_(b:ByteArray)(bM:Nat)(w:af)(hb:b.size<=140737488351232)(h1:1<=bM)(h2:bM<=1048576):
 aF prog 17 #[.string b,.int .i64 (bM:Int)] w fun e w'=>Wy b bM w e w'/\aJ w.heap.size w w':=by
 have l1:¬((bM:Int)<1):=by omega
 have l2:¬((1048576:Int)<(bM:Int)):=by omega
 have g5:ah _:=fun(w':af)=>uY b 8 w' (by omega) (by omega);have J:ah _:=Pr.NV b;have b5:ah _:=YN b;obtain⟨Q,hQ⟩:∃Q:Ending->af->Prop,Q=fun e w'=>Wy b bM w e w':=⟨_,rfl⟩;have hq:∀e w',Wy b bM w e w'=Q e w':=fun e w'=>by rw[hQ]
 simp only[hq];have HQ:ah (∀e w',Wy b bM w e w'->Q e w'):=(fun e w' h=>by rw[<-hq];exact h:∀e,_);clear hq hQ;go_enter func17,ntmps17
 go_upto_region 2 with fail
 have c:ah _:=DZ.start w;revert c;generalize (w.alloc _).alloc _=w1;intro c;obtain⟨⟨O,P,S⟩,⟨T,U,V⟩,X,Y,Z⟩:=DZ.cells c.out;by_cases h8:b.size<8
 ·have k1:(b.size:Int)<8:=by omega
  go_wp2_with fail
  have a:ah _:=DZ.ret c.out;revert a;generalize World.setCell _ _ _=s;intro a;obtain⟨u,d1,d2⟩:=CZ.cells a.out;refine aI (v:= .tuple #[.agg #[.int .i64 0,.int .i64 0,.slice none 0 0],.int .i64 3]) (by simp[results,results17,go_sem,u,d1,d2]) rfl ?_;exact⟨HQ.out _ _ (.inr (.inr ⟨.inl (fun h=>by have:=(b5.out.1 (J.out.1 h).1).1;omega),rfl⟩)),a.out.bl⟩
 have k1:¬((b.size:Int)<8):=by omega
 obtain⟨op,d9⟩:∃op,b.extract 0 8=op:=⟨_,rfl⟩;by_cases ho:op=Pr.lu;rotate_left
 ·have m5:(op.toList==([137,80,78,71,13,10,26,10]:List UInt8))=false:=by
   have:=lK ho;rw[show Pr.lu.toList=[137,80,78,71,13,10,26,10]by rw[bD];rfl]at this;exact this
  have k2:ah (¬H0 b):=(fun h=>ho (d9.symm.trans (b5.out.1 (J.out.1 h).1).2):¬_);clear ho;go_wp2_with fail
  have a:ah _:=DZ.ret c.out;revert a;generalize World.setCell _ _ _=s;intro a;obtain⟨u,d1,d2⟩:=CZ.cells a.out;refine aI (v:= .tuple #[.agg #[.int .i64 0,.int .i64 0,.slice none 0 0],.int .i64 3]) (by simp[results,results17,go_sem,u,d1,d2]) rfl ?_;exact⟨HQ.out _ _ (.inr (.inr ⟨.inl k2.out,rfl⟩)),a.out.bl⟩
 have g6:ah (Pr.Match b 0 Pr.lu):=(b5.out.2 ⟨by omega,d9.trans ho⟩:_);subst ho;unfold Pr.lu at d9;clear b5;go_wp2_with fail
 refine bz (g5.out _) ?_;rintro e w2 ⟨e0,g9⟩;have b6:ah _:=c.out.iU g9;clear g9 g5;rcases e0 with⟨h4,c1,c2,z,rfl⟩|⟨e1,rfl⟩
 ·have k3:ah (¬H0 b):=(fun h=>h4 (J.out.1 h).2.1:¬_);clear h4;go_upto_region 7 with fail
  clear c;have c:ah _:=b6.out.alloc (.cells #[.string c1,.string c2] 105);clear b6 O P S T U V X Y Z;revert c;generalize (w2.alloc _)=w3;intro c;obtain⟨⟨O,P,S⟩,⟨T,U,V⟩,X,Y,Z⟩:=DZ.cells c.out;go_wp2_with fail
  have a:ah _:=DZ.ret c.out;revert a;generalize World.setCell _ _ _=s;intro a;obtain⟨u,d1,d2⟩:=CZ.cells a.out;refine aI (v:= .tuple #[.agg #[.int .i64 0,.int .i64 0,.slice none 0 0],.int .i64 3]) (by simp[results,results17,go_sem,u,d1,d2]) rfl ?_;exact⟨HQ.out _ _ (.inr (.inr ⟨.inl k3.out,rfl⟩)),a.out.bl⟩
 obtain⟨ty,e2⟩:∃ty,ty=Pr.dQ b (8+4) 4:=⟨_,rfl⟩;obtain⟨A,b7⟩:∃A,A=Pr.dQ b (8+8) (aT b 8):=⟨_,rfl⟩;obtain⟨bh,e3⟩:∃bh,bh=8+12+aT b 8:=⟨_,rfl⟩;unfold xU;rw[<-e2,<-b7,<-e3];have k4:=e1.2.2.1;have h5:A.size=aT b 8:=by rw[b7];exact Pr.gq b _ _ (by omega)
 have e4:ah _:=e2;have h7:ah _:=b7;have h9:ah _:=e3;have e5:ah _:=h5;have e6:ah _:=e1;clear e2 b7 e3 e1 k4 h5;go_upto_region 7 with fail
 clear c;have c:ah _:=b6.out.alloc (.cells #[.string ty,.string A] 105);have a4:(w2.alloc (.cells #[.string ty,.string A] 105)).heap[w2.heap.size]?=_:=aO w2 (.cells #[.string ty,.string A] 105);clear b6 O P S T U V X Y Z;revert c a4;generalize (w2.alloc _)=w3;generalize w2.heap.size=cb;intro c a4;have c0:w3.cell? ⟨cb,0,none⟩=some (.string ty):=by simpa using(cell_of a4 0).1
 have c1:w3.cell? ⟨cb,1,none⟩=some (.string A):=by simpa using(cell_of a4 1).1
 clear a4;obtain⟨⟨O,P,S⟩,⟨T,U,V⟩,X,Y,Z⟩:=DZ.cells c.out;by_cases hI:ty=Pr.mP/\A.size=13;rotate_left
 ·have k5:ah (¬H0 b):=(fun h=>hI ⟨by rw[e4.out];exact(J.out.1 h).2.2.1,by rw[e5.out];exact(J.out.1 h).2.2.2.1⟩:¬_);have e7:ah _:=fun w'=>YG ty A hI w';simp only[IJ]at e7;clear hI;go_wp2_with fail
  refine bz (e7.out _) ?_;rintro e w4 ⟨rfl,a5⟩;have a6:ah _:=c.out.iU a5;clear c O P S T U V X Y Z c0 c1 a5 e7;go_upto_region 10 with fail
  have c:ah _:=a6.out.alloc (.cells #[.int .i64 0,.int .i64 0,.int .i64 0,.int .i64 0,.int .i64 0] 109);clear a6;revert c;generalize (w4.alloc _)=w5;intro c;obtain⟨⟨O,P,S⟩,⟨T,U,V⟩,X,Y,Z⟩:=DZ.cells c.out;go_wp2_with fail
  have a:ah _:=DZ.ret c.out;revert a;generalize World.setCell _ _ _=s;intro a;obtain⟨u,d1,d2⟩:=CZ.cells a.out;refine aI (v:= .tuple #[.agg #[.int .i64 0,.int .i64 0,.slice none 0 0],.int .i64 3]) (by simp[results,results17,go_sem,u,d1,d2]) rfl ?_;exact⟨HQ.out _ _ (.inr (.inr ⟨.inl k5.out,rfl⟩)),a.out.bl⟩
 obtain⟨i3,e8⟩:=hI;have i4:ah (Pr.dQ b (8+4) 4=Pr.mP):=(by rw[<-e4.out];exact i3:_=_);have a0:ah (aT b 8=13):=(by rw[<-e5.out];exact e8:_=_);have k:ah (A=Pr.dQ b (8+8) 13):=(by rw[h7.out,a0.out]:_=_);obtain rfl:bh=33:=by rw[h9.out,a0.out]
 subst i3;obtain⟨B,hB⟩:∃B:Bool,B=true↔Pr.headD A:=by classical exact⟨decide (Pr.headD A),by simp⟩
 have b8:ah _:=fun w'=>Vb A e8 B hB w';have i5:ah _:=hB;unfold abL oQ at b8;obtain⟨W,b9⟩:∃W,W=aT A 0:=⟨_,rfl⟩;obtain⟨H,c3⟩:∃H,H=aT A 4:=⟨_,rfl⟩;obtain⟨D,e9⟩:∃D,D=aA A 8:=⟨_,rfl⟩;obtain⟨K,f3⟩:∃K,K=aA A 9:=⟨_,rfl⟩;obtain⟨I,f4⟩:∃I,I=aA A 12:=⟨_,rfl⟩;rw[<-b9,<-c3,<-e9,<-f3,<-f4]at b8;have EW:ah (hW b=W):=(by rw[b9,k.out];rfl:_=_);have EH:ah (hH b=H):=(by rw[c3,k.out];rfl:_=_);have ED:ah (hD b=D):=(by rw[e9,k.out];rfl:_=_);have EK:ah (hK b=K):=(by rw[f3,k.out];rfl:_=_);have EI:ah (H0 b->I=hIn b):=(fun h=>by rw[f4,k.out];exact Pr.aeT h:_->_);have m6:W<4294967296:=by rw[b9];exact fV _ _
 have m7:H<4294967296:=by rw[c3];exact fV _ _
 have f5:ah (H0 b↔B=true):=(by rw[J.out,i5.out];unfold Pr.H0D;rw[k.out];exact⟨fun h=>h.2.2.2.2,fun h=>⟨g6.out,e6.out,i4.out,a0.out,h⟩⟩:_↔_)
 clear hB e8 b9 c3 e9 f3 f4 e4 h7 h9 e5 J;go_wp2_with fail
 refine bz (b8.out _) ?_;rintro e w4 ⟨rfl,a5⟩;have a6:ah _:=c.out.iU a5;clear c O P S T U V X Y Z c0 c1 a5 b8;go_upto_region 10 with fail
 have c:ah _:=a6.out.alloc (.cells #[.int .i64 (W:Int),.int .i64 (H:Int),.int .i64 (D:Int),.int .i64 (K:Int),.int .i64 (I:Int)] 109);have c4:(w4.alloc (.cells #[.int .i64 (W:Int),.int .i64 (H:Int),.int .i64 (D:Int),.int .i64 (K:Int),.int .i64 (I:Int)] 109)).heap[w4.heap.size]?=_:=aO w4 (.cells #[.int .i64 (W:Int),.int .i64 (H:Int),.int .i64 (D:Int),.int .i64 (K:Int),.int .i64 (I:Int)] 109);clear a6;revert c c4;generalize (w4.alloc _)=w5;generalize w4.heap.size=g;intro c c4;have d:ah _:=c4;clear c4;obtain⟨⟨O,P,S⟩,⟨T,U,V⟩,X,Y,Z⟩:=DZ.cells c.out;cases B with
 |false=>
  have q:ah (¬H0 b):=(fun h=>Bool.noConfusion (f5.out.1 h):¬_);go_wp2_with fail
  have a:ah _:=DZ.ret c.out;revert a;generalize World.setCell _ _ _=s;intro a;obtain⟨u,d1,d2⟩:=CZ.cells a.out;refine aI (v:= .tuple #[.agg #[.int .i64 0,.int .i64 0,.slice none 0 0],.int .i64 3]) (by simp[results,results17,go_sem,u,d1,d2]) rfl ?_;exact⟨HQ.out _ _ (.inr (.inr ⟨.inl q.out,rfl⟩)),a.out.bl⟩
 |true=>
  have HH:ah (H0 b):=(f5.out.2 rfl:H0 b);obtain⟨NB,i6⟩:∃NB:Bool,NB=true↔bM<W*H:=⟨decide (bM<W*H),by simp⟩;have q:ah _:=i6;clear i6;have c5:ah (1<=W/\1<=H):=(by obtain⟨_,_,_,h1,h2⟩:=Pr.pR HH.out;rw[<-EW.out,<-EH.out];exact⟨h1,h2⟩:_/\_);have h0:w5.cell? ⟨g,0,none⟩=some (.int .i64 (W:Int)):=by simpa using(cell_of d.out 0).1
  have k6:w5.cell? ⟨g,1,none⟩=some (.int .i64 (H:Int)):=by simpa using(cell_of d.out 1).1
  go_upto_region 12 with fail
  go_cut [70] (fun v wx=>v= .bool NB/\wx=w5)
  case first=>
   clear O P S T U V X Y Z;by_cases g1:bM<W
   ·have k7:(bM:Int)<(W:Int):=by omega
    have HR:ah (NB=true):=(q.out.2 (by have h2:=c5.out.2;exact bu g1 (nT W h2)):_=_);go_wp2_with fail
    go_meet
    case rel=>exact⟨by rw[HR.out],rfl⟩
   have k7:¬((bM:Int)<(W:Int)):=by omega
   by_cases g2:bM<H
   ·have k8:(bM:Int)<(H:Int):=by omega
    have HR:ah (NB=true):=(q.out.2 (by have h2:=c5.out.1;exact bu g2 (tV H h2)):_=_);go_wp2_with fail
    go_meet
    case rel=>exact⟨by rw[HR.out],rfl⟩
   have k8:¬((bM:Int)<(H:Int)):=by omega
   have k9:W*H<=1048576*1048576:=bT (by omega) (by omega);obtain⟨m,hm⟩:∃m,m=W*H:=⟨_,rfl⟩;have m8:(W:Int)*(H:Int)=(m:Int):=by rw[hm];simp
   rw[<-hm]at k9 q;clear hm;have m9:IntKind.i64.wrap (m:Int)=(m:Int):=by rw[bK];omega
   by_cases g3:bM<m
   ·have l0:(bM:Int)<(m:Int):=by omega
    have HR:ah (NB=true):=(q.out.2 g3:_=_);go_wp2_with fail
    go_meet
    case rel=>exact⟨by rw[HR.out],rfl⟩
   ·have l0:¬((bM:Int)<(m:Int)):=by omega
    have HR:ah (NB=false):=(by cases h:NB with|false=>rfl|true=>exact absurd (q.out.1 h) g3:_=_);go_wp2_with fail
    go_meet
    case rel=>exact⟨by rw[HR.out],rfl⟩
  case rest=>
   obtain⟨rfl,c6⟩:=hcut;have c6:=c6.symm;subst c6;cases NB with
   |true=>
    have l3:ah (bM<hW b*hH b):=(by rw[EW.out,EH.out];exact q.out.1 rfl:_<_);go_wp2_with fail
    have a:ah _:=DZ.ret c.out;revert a;generalize World.setCell _ _ _=s;intro a;obtain⟨u,d1,d2⟩:=CZ.cells a.out;refine aI (v:= .tuple #[.agg #[.int .i64 0,.int .i64 0,.slice none 0 0],.int .i64 2]) (by simp[results,results17,go_sem,u,d1,d2]) rfl ?_;exact⟨HQ.out _ _ (.inr (.inl ⟨⟨HH.out,l3.out⟩,rfl⟩)),a.out.bl⟩
   |false=>
    have C:ah (W*H<=bM):=(Nat.le_of_not_lt (fun h=>Bool.noConfusion (q.out.2 h)):_<=_);have i7:ah (33<=b.size):=(by have h2:=e6.out.2.2.1;have h3:=a0.out;omega:_<=_);have l:ah ((K=0\/K=2\/K=3\/K=4\/K=6)/\(D=1\/D=2\/D=4\/D=8\/D=16)):=(by obtain⟨h1,h2,_⟩:=Pr.pR HH.out;rw[EK.out]at h1;rw[ED.out]at h2;exact⟨h1,h2⟩:_/\_);have i9:ah (I<=1):=(by rw[EI.out HH.out];unfold hIn;split<;>omega:_<=_);have f6:ah _:=fun w'=>NQ W H D K I b ps0 w' rfl (by omega) i7.out l.out.1 (by have:=l.out.2;omega) (by have:=l.out.2;omega);unfold oQ nV at f6;have j0:ah _:=Vf b W H D K I EW.out EH.out ED.out EK.out (EI.out HH.out) HH.out;have l4:w5.cell? ⟨g,2,none⟩=some (.int .i64 (D:Int)):=by simpa using(cell_of d.out 2).1
    have l5:w5.cell? ⟨g,3,none⟩=some (.int .i64 (K:Int)):=by simpa using(cell_of d.out 3).1
    have l6:w5.cell? ⟨g,4,none⟩=some (.int .i64 (I:Int)):=by simpa using(cell_of d.out 4).1
    clear q c6 i5 f5 g6 i4 k e6 EI;go_wp2_with fail
    refine bz (f6.out _) ?_;rintro e w6 ⟨l7,f7⟩;have c7:ah _:=c.out.iU f7;have a7:ah _:=(f7.block _ (ai d.out)).trans d.out;clear c d f6 O P S T U V X Y Z h0 k6 l4 l5 l6 f7;rcases l7 with⟨j1,y,rfl⟩|⟨y,⟨hy,s1,s2,s3⟩,rfl⟩
    ·have a8:ah (hW b*hH b<=bM/\¬Pr.Good b):=(⟨by rw[EW.out,EH.out];exact C.out,Pr.abU HH.out (by rw[EK.out,ED.out];exact j1)⟩:_/\_);clear j1;go_upto_region 15 with fail
     have c:ah _:=c7.out.alloc (.cells #[.int .i64 (W:Int),.int .i64 (H:Int),.int .i64 (D:Int),.int .i64 (K:Int),.int .i64 (I:Int),.string y.pl,.string y.tr,.bool y.pb,.bool y.tb,.string y.da] 113);clear c7;revert c;generalize (w6.alloc _)=w7;intro c;obtain⟨⟨O,P,S⟩,⟨T,U,V⟩,X,Y,Z⟩:=DZ.cells c.out;go_wp2_with fail
     have a:ah _:=DZ.ret c.out;revert a;generalize World.setCell _ _ _=s;intro a;obtain⟨u,d1,d2⟩:=CZ.cells a.out;refine aI (v:= .tuple #[.agg #[.int .i64 0,.int .i64 0,.slice none 0 0],.int .i64 3]) (by simp[results,results17,go_sem,u,d1,d2]) rfl ?_;exact⟨HQ.out _ _ (.inr (.inr ⟨.inr a8.out,rfl⟩)),a.out.bl⟩
    ·obtain⟨y0,y1,yl,yt,yp,yb,G⟩:=y;dsimp only at hy s1 s2 s3|-;have HY:ah _:=hy;have HS:ah (G.size<=b.size/\yl.size<=b.size/\yt.size<=b.size):=(⟨s1,s2,s3⟩:_/\_);clear hy s1 s2 s3;go_upto_region 15 with fail
     have c:ah _:=c7.out.alloc (.cells #[.int .i64 (W:Int),.int .i64 (H:Int),.int .i64 (D:Int),.int .i64 (K:Int),.int .i64 (I:Int),.string yl,.string yt,.bool yp,.bool yb,.string G] 113);have d:ah _:=(aj w6 (.cells #[.int .i64 (W:Int),.int .i64 (H:Int),.int .i64 (D:Int),.int .i64 (K:Int),.int .i64 (I:Int),.string yl,.string yt,.bool yp,.bool yb,.string G] 113) g (ai a7.out)).trans a7.out;have E:ah _:=aO w6 (.cells #[.int .i64 (W:Int),.int .i64 (H:Int),.int .i64 (D:Int),.int .i64 (K:Int),.int .i64 (I:Int),.string yl,.string yt,.bool yp,.bool yb,.string G] 113);clear c7 a7;revert c d E;generalize (w6.alloc _)=w7;generalize w6.heap.size=o;intro c d E;obtain⟨sz,a1⟩:∃sz,sz=lG D K W H (dX I):=⟨_,rfl⟩;have j2:ah _:=a1;obtain⟨a9,d7⟩:=j0.out.1 (aK C.out h2);rw[<-a1]at a9 d7;have b0:ah _:=a9;obtain⟨wl,hl⟩:∃x:Nat,x=1:=⟨_,rfl⟩;have j3:W<=1048576:=aK (nT W c5.out.2) (aK C.out h2);have j4:H<=1048576:=aK (tV H c5.out.1) (aK C.out h2);have c8:ah _:=fun w'=>abM W H D K I w' i9.out (by have:=l.out.1;omega) (by have:=l.out.2;omega) j3 j4;rw[<-a1]at c8;unfold oQ at c8;have f8:ah _:=fun w'=>Pr.IU G sz w' (by have:=HS.out.1;omega) d7;obtain⟨rows,L⟩:∃rows,rows=(Pr.JH G sz).1:=⟨_,rfl⟩;obtain⟨ec,M⟩:∃ec,ec=(Pr.JH G sz).2:=⟨_,rfl⟩;rw[<-L,<-M]at f8;have l8:ah _:=L;have j5:ah _:=M;clear a1 a9 L M hl;have z0:w7.cell? ⟨g,0,none⟩=some (.int .i64 (W:Int)):=by simpa using(cell_of d.out 0).1
     have z1:w7.cell? ⟨g,1,none⟩=some (.int .i64 (H:Int)):=by simpa using(cell_of d.out 1).1
     have z2:w7.cell? ⟨g,2,none⟩=some (.int .i64 (D:Int)):=by simpa using(cell_of d.out 2).1
     have z3:w7.cell? ⟨g,3,none⟩=some (.int .i64 (K:Int)):=by simpa using(cell_of d.out 3).1
     have z4:w7.cell? ⟨g,4,none⟩=some (.int .i64 (I:Int)):=by simpa using(cell_of d.out 4).1
     have z5:w7.cell? ⟨o,9,none⟩=some (.string G):=by simpa using(cell_of E.out 9).1
     go_upto_region 17 with fail
     go_region_held3 (fun w'=>w'.cell? ⟨g,0,none⟩=some (.int .i64 (W:Int))/\w'.cell? ⟨g,1,none⟩=some (.int .i64 (H:Int))/\w'.cell? ⟨g,2,none⟩=some (.int .i64 (D:Int))/\w'.cell? ⟨g,3,none⟩=some (.int .i64 (K:Int))/\w'.cell? ⟨g,4,none⟩=some (.int .i64 (I:Int))/\w'.cell? ⟨o,9,none⟩=some (.string G))
      (first|go_keep|(go_split_ands;refine⟨?_,?_,?_,?_,?_,?_⟩<;>(first|(rw[p.cell (ai d.out)];assumption)|(rw[p.cell (ai E.out)];assumption)))|(go_split_ands;refine⟨?_,?_,?_,?_,?_,?_⟩<;>(first|(rw[c9.cell (bu (ai d.out) p.size)];assumption)|(rw[c9.cell (bu (ai E.out) p.size)];assumption))))
      (first
      |(go_at_call 54;go_must (refine(c8.out _).mono ?_;rintro e w8 ⟨rfl,p⟩))
      |(go_at_call 15;go_must (refine(f8.out _).mono ?_;rintro e s ⟨rfl,c9⟩)))
     have b1:aJ w7.heap.size w7 s:=gI (⟨p.os,p.tape,p.output,p.size,p.block⟩:aJ w7.heap.size w7 w8) (c9.mono p.size);have j6:ah _:=c.out.iU b1;have j:ah _:=(b1.block _ (ai E.out)).trans E.out;clear c E d c8 f8 p c9 b1 z0 z1 z2 z3 z4 z5;have c:ah _:=j6.out;clear j6;obtain⟨P1,st,t,P2,said⟩:=Pr.adM HH.out (y:=⟨y0,y1,yl,yt,yp,yb,G⟩) (by rw[EK.out,ED.out];exact HY.out);have d4:ah _:=said;clear said;by_cases F:Pr.Oo G sz (fun _=>True);rotate_left
     ·have a8:ah (hW b*hH b<=bM/\¬Pr.Good b):=(⟨by rw[EW.out,EH.out];exact C.out,Pr.aeU d4.out (by rw[<-b0.out];exact F)⟩:_/\_);have M:ec=3:=by rw[j5.out];unfold Pr.JH;rw[au F]
      subst M;clear F;obtain⟨⟨O,P,S⟩,⟨T,U,V⟩,X,Y,Z⟩:=DZ.cells c.out;go_wp2_with fail
      have a:ah _:=DZ.ret c.out;revert a;generalize World.setCell _ _ _=s;intro a;obtain⟨u,d1,d2⟩:=CZ.cells a.out;refine aI (v:= .tuple #[.agg #[.int .i64 0,.int .i64 0,.slice none 0 0],.int .i64 3]) (by simp[results,results17,go_sem,u,d1,d2]) rfl ?_;exact⟨HQ.out _ _ (.inr (.inr ⟨.inr a8.out,rfl⟩)),a.out.bl⟩
     ·have M:ec=0:=by rw[j5.out];unfold Pr.JH;rw[aC F]
      have j7:ah (rows=⟨(Pr.wU G sz).out.toArray⟩):=(by rw[l8.out];unfold Pr.JH;rw[aC F]:_=_);have l9:ah (rows.size=lG D K W H (dX I)):=(by rw[j7.out,<-j2.out];exact F.2.2.1:_=_);have m0:ah (Pr.qP rows.data.toList=Pr.qP (Pr.wU G sz).out):=(by rw[j7.out]:_=_);have m1:ah (Pr.Oo G (R_ b) (fun _=>True)):=(by rw[<-b0.out];exact F:Pr.Oo _ _ _);subst M;clear F;have b2:=Pr.aeR HY.out ⟨rfl,fun _ h=>Bool.noConfusion h⟩
      have d5:ah _:=fun w'=>YC W H D K I yl yt G rows yp yb (Pr.Iy W H D K (hI b) st) w' j3 j4 (by rw[jM];have:=C.out;omega) i9.out l.out.1 l.out.2 rfl (fun n=>(Pr.Qy D K n l.out.1).symm) (YO D K l.out.1)
       (fun row i=>by have h:=Pr.abO K D st yl yt yb (by have:=d4.out.says;rw[EK.out]at this;exact this) l.out.1 row i;rw[<-Pr.zN K l.out.1]at h;exact h.symm) l9.out (by have:=HS.out.2.1;omega) (by have:=HS.out.2.2;omega) (fun _=>b2.pl) b2.tr
      have f9:ah (Ec b st (Pr.qP (Pr.wU G (R_ b)).out)=Pr.qo (Pr.Iy W H D K (hI b) st) ((dX I).map (xR W H)) (Pr.qP rows.data.toList) (List.replicate (4*W*H) 0)):=(by rw[j0.out.2,m0.out,b0.out]:_=_);obtain⟨R,hR⟩:∃R,R=Pr.qo (Pr.Iy W H D K (hI b) st) ((dX I).map (xR W H)) (Pr.qP rows.data.toList) (List.replicate (4*W*H) 0):=⟨_,rfl⟩;rw[<-hR]at d5 f9;unfold nV at d5;obtain⟨N,hN⟩:∃N,N=4*W*H:=⟨_,rfl⟩;rw[<-hN]at d5;have HN:ah _:=hN;clear b2 hR hN;have p0:s.cell? ⟨o,0,none⟩=some (.int .i64 (W:Int)):=by simpa using(cell_of j.out 0).1
      have p1:s.cell? ⟨o,1,none⟩=some (.int .i64 (H:Int)):=by simpa using(cell_of j.out 1).1
      have p2:s.cell? ⟨o,2,none⟩=some (.int .i64 (D:Int)):=by simpa using(cell_of j.out 2).1
      have p3:s.cell? ⟨o,3,none⟩=some (.int .i64 (K:Int)):=by simpa using(cell_of j.out 3).1
      have p4:s.cell? ⟨o,4,none⟩=some (.int .i64 (I:Int)):=by simpa using(cell_of j.out 4).1
      have p5:s.cell? ⟨o,5,none⟩=some (.string yl):=by simpa using(cell_of j.out 5).1
      have p6:s.cell? ⟨o,6,none⟩=some (.string yt):=by simpa using(cell_of j.out 6).1
      have p7:s.cell? ⟨o,7,none⟩=some (.bool yp):=by simpa using(cell_of j.out 7).1
      have p8:s.cell? ⟨o,8,none⟩=some (.bool yb):=by simpa using(cell_of j.out 8).1
      go_wp2_with fail
      refine bz (d5.out _) ?_;rintro e a3 ⟨m2,d8⟩;have a2:ah _:=c.out.iU d8;have m3:ah (w.heap.size<s.heap.size):=(ai c.out.r:_<_);clear c d8 p0 p1 p2 p3 p4 p5 p6 p7 p8;rcases m2 with⟨hn,gp,rfl⟩|⟨dM,gp,hs,rfl,j8,j9⟩
      ·have a8:ah (hW b*hH b<=bM/\¬Pr.Good b):=(⟨by rw[EW.out,EH.out];exact C.out,Pr.aeV HH.out d4.out (by rw[f9.out];exact hn)⟩:_/\_);clear hn;go_upto_region 21 with fail
       have c:ah _:=a2.out.alloc (.cells #[.int .i64 (W:Int),.int .i64 (H:Int),.slice (some ⟨gp,0,none⟩) N N] 32);clear a2;revert c;generalize (a3.alloc _)=d6;intro c;obtain⟨⟨O,P,S⟩,⟨T,U,V⟩,X,Y,Z⟩:=DZ.cells c.out;go_wp2_with fail
       have a:ah _:=DZ.ret c.out;revert a;generalize World.setCell _ _ _=s;intro a;obtain⟨u,d1,d2⟩:=CZ.cells a.out;refine aI (v:= .tuple #[.agg #[.int .i64 0,.int .i64 0,.slice none 0 0],.int .i64 3]) (by simp[results,results17,go_sem,u,d1,d2]) rfl ?_;exact⟨HQ.out _ _ (.inr (.inr ⟨.inr a8.out,rfl⟩)),a.out.bl⟩
      ·have m4:ah _:=Pr.adN HH.out d4.out m1.out (dM:=dM) (by rw[f9.out];exact hs);have g0:ah _:=j8;have k0:ah (w.heap.size<gp):=(bu m3.out j9:_<_);clear hs j8 j9;go_upto_region 21 with fail
       have c:ah _:=a2.out.alloc (.cells #[.int .i64 (W:Int),.int .i64 (H:Int),.slice (some ⟨gp,0,none⟩) N N] 32);have b3:ah (iC (a3.alloc (.cells #[.int .i64 (W:Int),.int .i64 (H:Int),.slice (some ⟨gp,0,none⟩) N N] 32)) gp dM):=((aj a3 _ gp (ai g0.out)).trans g0.out:iC _ _ _);have b4:ah _:=aO a3 (.cells #[.int .i64 (W:Int),.int .i64 (H:Int),.slice (some ⟨gp,0,none⟩) N N] 32);clear a2 g0;revert c b3 b4;generalize (a3.alloc _)=d6;generalize a3.heap.size=ib;intro c b3 b4;obtain⟨⟨O,P,S⟩,⟨T,U,V⟩,X,Y,Z⟩:=DZ.cells c.out;have i0:d6.cell? ⟨ib,0,none⟩=some (.int .i64 (W:Int)):=by simpa using(cell_of b4.out 0).1
       have i1:d6.cell? ⟨ib,1,none⟩=some (.int .i64 (H:Int)):=by simpa using(cell_of b4.out 1).1
       have i2:d6.cell? ⟨ib,2,none⟩=some (.slice (some ⟨gp,0,none⟩) N N):=by simpa using(cell_of b4.out 2).1
       go_wp2_with fail
       have a:ah _:=DZ.image (W:=W) (H:=H) (N:=N) c.out b3.out k0.out;revert a;generalize World.setCell _ _ _=g4;intro a;have u:g4.cell? ⟨w.heap.size,0,none⟩=some (.int .i64 (W:Int)):=by simpa using(cell_of a.out.b 0).1
       have d1:g4.cell? ⟨w.heap.size,1,none⟩=some (.int .i64 (H:Int)):=by simpa using(cell_of a.out.b 1).1
       have d2:g4.cell? ⟨w.heap.size,2,none⟩=some (.slice (some ⟨gp,0,none⟩) N N):=by simpa using(cell_of a.out.b 2).1
       refine aI (v:= .tuple #[.agg #[.int .i64 (W:Int),.int .i64 (H:Int),.slice (some ⟨gp,0,none⟩) N N],.int .i64 0]) (by simp[results,results17,go_sem,u,d1,d2]) rfl ?_;obtain⟨f,hw,ho,hf⟩:=m4.out;refine⟨HQ.out _ _ (.inl ⟨P1,st,t,P2,f,gp,hw,by rw[EW.out,EH.out];exact C.out,ho,by rw[EW.out,EH.out,<-HN.out],by rw[hf];exact a.out.x,BB k0.out⟩),a.out.bl⟩
end h_
namespace Pr
open Go.RowKit Rf Cr
theorem YS(P:wW)(t:lC)(k:Nat):∀(y:Nat) (a_ l dM p:List Nat),kV P t k y a_ l dM=some p->p.length=dM.length:=by
 induction k with
 |zero=>intro y a_ l dM p h;cases h;rfl
 |succ k a=>
  intro y a_ l dM p h;rw[kV]at h;split at h
  ·cases h
  ·obtain⟨q,b,c⟩:=Option.bind_eq_some_iff.1 h;exact(a _ _ _ _ _ c).trans (xK _ _ _ _ _ _ b)
theorem abZ(P:wW)(a:List lC):∀(l dM p:List Nat),qo P a l dM=some p->p.length=dM.length:=by
 induction a with
 |nil=>intro l dM p h;cases h;rfl
 |cons t a b=>
  intro l dM p h;rw[qo]at h;split at h
  ·exact b _ _ _ h
  ·obtain⟨q,c,d⟩:=Option.bind_eq_some_iff.1 h;exact(b _ _ _ d).trans (YS _ _ _ _ _ _ _ _ c)
theorem WB{s:ByteArray}{P1:Pt}{st:Cs}{t:lC}{P2:Pt}{f:eU}(h:Way s P1 st t P2)(b:NU s P1 st t=some f):f.dM.length=4*hW s*hH s:=by
 have a:=IV h.head st t h.first (qP (wU (qR s P1.p P1.left P1.l) (R_ s)).out) (by rw[Fj];exact h.rows.1.2.2.1)
 have c:n_ (Iy (hW s) (hH s) (hD s) (hK s) (hI s) st) (qP (wU (qR s P1.p P1.left P1.l) (R_ s)).out) (rs0 (hD s*bF (hK s)) (4*hW s*hH s) t)=some f:=b;rw[c]at a;have:=abZ _ _ _ _ _ a.symm;rw[this,mJ]
structure An where
 e:Int
 W:Nat
 H:Nat
 dM:List Nat
inductive wC(b:ByteArray)(bM:Int):An->Prop
 |lim:(bM<1\/1048576<bM)->wC b bM ⟨1,0,0,[]⟩
 |ok {P1:Pt} {st:Cs} {t:lC} {P2:Pt} {f:eU}:1<=bM->bM<=1048576->Way b P1 st t P2->((hW b*hH b:Nat):Int)<=bM->NU b P1 st t=some f->wC b bM ⟨0,hW b,hH b,f.dM⟩
 |large:1<=bM->bM<=1048576->H0 b->bM<((hW b*hH b:Nat):Int)->wC b bM ⟨2,0,0,[]⟩
 |dA:1<=bM->bM<=1048576->(¬H0 b\/(((hW b*hH b:Nat):Int)<=bM/\¬Good b))->wC b bM ⟨3,0,0,[]⟩
theorem wC.EZ{b:ByteArray}{bM:Int}{A B:An}(h:wC b bM A)(g:wC b bM B):A=B:=by
 cases h with
 |lim i=>
  cases g with
  |lim _=>rfl
  |ok c d=>omega
  |large c d=>omega
  |dA c d=>omega
 |ok i j h3 k l=>
  cases g with
  |lim _=>omega
  |ok c d a e f=>obtain⟨rfl,rfl,rfl,rfl⟩:=h3.EZ a;rw[l]at f;cases f;rfl
  |large c d a e=>omega
  |dA c d a=>
   rcases a with a|a
   ·exact absurd h3.head a
   ·exact absurd ⟨_,_,_,_,h3⟩ a.2
 |large i j h3 k=>
  cases g with
  |lim _=>omega
  |ok c d a e f=>omega
  |large c d a e=>rfl
  |dA c d a=>
   rcases a with a|a
   ·exact absurd h3 a
   ·omega
 |dA i j h3=>
  cases g with
  |lim _=>omega
  |ok c d a e f=>
   rcases h3 with h3|h3
   ·exact absurd a.head h3
   ·exact absurd ⟨_,_,_,_,a⟩ h3.2
  |large c d a e=>
   rcases h3 with h3|h3
   ·exact absurd a h3
   ·omega
  |dA _ _ _=>rfl
theorem wC.ex(b:ByteArray)(bM:Int):∃A,wC b bM A:=by
 by_cases h:bM<1\/1048576<bM
 ·exact⟨_,.lim h⟩
 ·have a:1<=bM:=by omega
  have c:bM<=1048576:=by omega
  by_cases h3:H0 b
  ·by_cases e:bM<((hW b*hH b:Nat):Int)
   ·exact⟨_,.large a c h3 e⟩
   ·by_cases d:Good b
    ·obtain⟨P1,st,t,P2,hw⟩:=d;obtain⟨_,f,g⟩:=hw.rows;exact⟨_,.ok (f:=f) a c hw (by omega) g⟩
    ·exact⟨_,.dA a c (.inr ⟨by omega,d⟩)⟩
  ·exact⟨_,.dA a c (.inl h3)⟩
theorem wC.len{b:ByteArray}{bM:Int}{A:An}(h:wC b bM A):A.dM.length<=4194304:=by
 cases h with
 |lim _=>exact aU _
 |ok c d h3 e a=>show _<=_;rw[WB h3 a,jM];omega
 |large _ _ _ _=>exact aU _
 |dA _ _ _=>exact aU _
def d_(base:Nat)(w:af)(la:Option bP)(n:Nat)(L:List Nat):Prop:=L.length=n/\((la=none/\n=0)\/∃gp,la=some ⟨gp,0,none⟩/\iC w gp L/\base<=gp)
def Told(A:An)(w:af)(e:Ending)(w':af):Prop:=∃la n,e= .returned (.tuple #[.agg #[.int .i64 (A.W:Int),.int .i64 (A.H:Int),.slice la n n],.int .i64 A.e])/\d_ w.heap.size w' la n A.dM
theorem told_none(c:Int)(w w':af):Told ⟨c,0,0,[]⟩ w (.returned (.tuple #[xh,.int .i64 c])) w':=⟨none,0,rfl,rfl,.inl ⟨rfl,rfl⟩⟩
theorem Ee{b:ByteArray}{P1:Pt}{st:Cs}{t:lC}{P2:Pt}{f:eU}(h:Way b P1 st t P2)(a:NU b P1 st t=some f){w w':af}{gp:Nat}(hp:iC w' gp f.dM)(c:w.heap.size<=gp):
 Told ⟨0,hW b,hH b,f.dM⟩ w (.returned (.tuple #[.agg #[.int .i64 (hW b:Int),.int .i64 (hH b:Int),.slice (some ⟨gp,0,none⟩) (4*hW b*hH b) (4*hW b*hH b)],.int .i64 0])) w':=
 ⟨some ⟨gp,0,none⟩,4*hW b*hH b,rfl,WB h a,.inr ⟨gp,rfl,hp,c⟩⟩
theorem d_.dM{base n:Nat}{w:af}{la:Option bP}{L:List Nat}(h:d_ base w la n L):C_ w (.slice la n n) L:=by
 obtain⟨a,⟨rfl,rfl⟩|⟨gp,rfl,hp,_⟩⟩:=h
 ·rw[gG a];exact C_.nil w
 ·exact C_.nN hp a
theorem d_.iU{base n:Nat}{w w':af}{la:Option bP}{L:List Nat}(h:d_ base w la n L)(e:∀gp,la=some ⟨gp,0,none⟩->w'.heap[gp]?=w.heap[gp]?):d_ base w' la n L:=
 ⟨h.1,h.2.imp id (fun⟨gp,a,b,h3⟩=>⟨gp,a,(e gp a).trans b,h3⟩)⟩
theorem d_.below{base n:Nat}{w w':af}{la:Option bP}{L:List Nat}(h:d_ base w la n L)(hb:aJ w.heap.size w w'):d_ base w' la n L:=
 ⟨h.1,h.2.imp id (fun⟨gp,b,a,h3⟩=>⟨gp,b,(hb.block gp (ai a)).trans a,h3⟩)⟩
theorem IY(b:ByteArray)(bM:Int)(sl:ay)(L:List Int)(w:af)(eb fb lb:bP)(A:An)(g:wC b bM A)(hD:JI w eb fb lb)(a:qf w w.heap.size sl L)(p:∀t,∃k,jJ L t=some k)(d:b.size<=140737488354000):
 aF prog 16 #[.string b,.int .i64 bM,sl] w fun e w'=>Told A w e w'/\aJ w.heap.size w w':=by
 by_cases h:bM<1\/1048576<bM
 ·obtain⟨la,cap,rfl,-,-⟩:=a;refine(IW b bM la _ cap w h).mono ?_;rintro e w' ⟨rfl,hb⟩;rw[g.EZ (.lim h)];exact⟨told_none 1 w w',hb⟩
 ·obtain⟨l,rfl⟩:∃l:Nat,bM=l:=⟨bM.toNat,by omega⟩;have i:(1:Int)<=(l:Int):=by omega
  have j:(l:Int)<=1048576:=by omega
  refine(Ed b l sl L b w eb fb lb hD a (.inl rfl) d d (by omega) (by omega)).mono ?_;rintro e w' ⟨⟨P1,st,t,P2,f,gp,c,m,u,n,rfl,r,s⟩|⟨⟨⟨c,m⟩,_⟩,rfl⟩|⟨c,rfl⟩|⟨⟨t,c,m⟩,_⟩,hb⟩
  ·rw[g.EZ (.ok i j c (by omega) n)];exact⟨Ee c n r s,hb⟩
  ·rw[g.EZ (.large i j c (by omega))];exact⟨told_none 2 w w',hb⟩
  ·rw[g.EZ (.dA i j (c.imp id (fun q=>⟨by have:=q.1;omega,q.2⟩)))];exact⟨told_none 3 w w',hb⟩
  ·obtain⟨k,o⟩:=p (t+1);rw[m]at o;cases o
theorem JJ(b:ByteArray)(bM:Int)(w:af)(h:bM<1\/1048576<bM):
 aF prog 17 #[.string b,.int .i64 bM] w fun e w'=>e= .returned (.tuple #[xh,.int .i64 1])/\aJ w.heap.size w w':=by
 unfold xh;rcases h with h|h
 ·go_enter func17,ntmps17
  go_upto_region 2 with fail
  have c:ah _:=h_.DZ.start w;revert c;generalize (w.alloc _).alloc _=w1;intro c;obtain⟨⟨f,g,i⟩,⟨j,k,l⟩,m,n,o⟩:=h_.DZ.cells c.out;go_wp2_with fail
  have a:ah _:=h_.DZ.ret c.out;revert a;generalize World.setCell _ _ _=p;intro a;obtain⟨d,d1,d2⟩:=h_.CZ.cells a.out;refine aI (v:= .tuple #[.agg #[.int .i64 0,.int .i64 0,.slice none 0 0],.int .i64 1]) (by simp[results,results17,go_sem,d,d1,d2]) rfl ?_;exact⟨rfl,a.out.bl⟩
 ·have q:¬bM<1:=by omega
  go_enter func17,ntmps17
  go_upto_region 2 with fail
  have c:ah _:=h_.DZ.start w;revert c;generalize (w.alloc _).alloc _=w1;intro c;obtain⟨⟨f,g,i⟩,⟨j,k,l⟩,m,n,o⟩:=h_.DZ.cells c.out;go_wp2_with fail
  have a:ah _:=h_.DZ.ret c.out;revert a;generalize World.setCell _ _ _=p;intro a;obtain⟨d,d1,d2⟩:=h_.CZ.cells a.out;refine aI (v:= .tuple #[.agg #[.int .i64 0,.int .i64 0,.slice none 0 0],.int .i64 1]) (by simp[results,results17,go_sem,d,d1,d2]) rfl ?_;exact⟨rfl,a.out.bl⟩
theorem IZ(b:ByteArray)(bM:Int)(w:af)(A:An)(c:wC b bM A)(d:b.size<=140737488351232):
 aF prog 17 #[.string b,.int .i64 bM] w fun e w'=>Told A w e w'/\aJ w.heap.size w w':=by
 by_cases h:bM<1\/1048576<bM
 ·refine(JJ b bM w h).mono ?_;rintro e w' ⟨rfl,hb⟩;rw[c.EZ (.lim h)];exact⟨told_none 1 w w',hb⟩
 ·obtain⟨l,rfl⟩:∃l:Nat,bM=l:=⟨bM.toNat,by omega⟩;have g:(1:Int)<=(l:Int):=by omega
  have i:(l:Int)<=1048576:=by omega
  refine(h_.N_ b l w d (by omega) (by omega)).mono ?_;rintro e w' ⟨⟨P1,st,t,P2,f,gp,a,k,j,rfl,m,n⟩|⟨⟨a,k⟩,rfl⟩|⟨a,rfl⟩,hb⟩
  ·rw[c.EZ (.ok g i a (by omega) j)];exact⟨Ee a j m n,hb⟩
  ·rw[c.EZ (.large g i a (by omega))];exact⟨told_none 2 w w',hb⟩
  ·rw[c.EZ (.dA g i (a.imp id (fun q=>⟨by have:=q.1;omega,q.2⟩)))];exact⟨told_none 3 w w',hb⟩
end Pr
end Go.Proofs.YtephkcdbnogdhaaGreatDoor
