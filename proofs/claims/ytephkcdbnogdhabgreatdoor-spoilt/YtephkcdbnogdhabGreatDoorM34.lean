import Derived.Test.YtephkcdbnogdhabGreatDoorM28
import Derived.Test.YtephkcdbnogdhabGreatDoorM31
set_option linter.unusedVariables false
set_option maxHeartbeats 40000000
set_option maxRecDepth 10000
namespace Go.Proofs.YtephkcdbnogdhabGreatDoor
open Go.Proofs.Tryz
open Go renaming World->af,Value->ay,Calls->aH,TypeId->aW,Addr->bG
open Go.RowKit renaming Hid->au,intOf->bH
namespace Kp
open Go.RowKit Rf Cr
open Pr
open gI (mY iU)
noncomputable def imL:Code:=((f8.body.map uN).getD []).getD 0 .skip
def Wu(W H:Nat)(v:ay):Obj:= .cells #[.int .i64 (W:Int),.int .i64 (H:Int),v] 35 (0,0)
theorem Wv(q:Nat->qZ)(n:Nat):pU q (n+1)=pU q n++[(q n).1,(q n).2.1,(q n).2.2.1,(q n).2.2.2]:=rfl
theorem aak(q:Nat->qZ)(n:Nat):dm (pU q (n+1))=dm (pU q n)++[.int .u16 (((q n).1:Nat):Int),.int .u16 (((q n).2.1:Nat):Int),.int .u16 (((q n).2.2.1:Nat):Int),.int .u16 (((q n).2.2.2:Nat):Int)]:=by rw[Wv];simp[dm]
theorem OD{w0 wr a:af}{pb n g cap j m:Nat}{cs:Array ay}{T:aW}{v:ay}{xs i:List ay}{o:Obj}(b:wr.heap[pb]?=some (.cells cs T (0,0)))(l:wr.ownsRow w0.heap.size 55 1 v n xs)(hF:Fr (fun k=>k=pb) w0 wr)(q:pb<w0.heap.size)
 (p:a.ownsRow w0.heap.size 55 1 (.slice (some ⟨g,0,none⟩) (n+m) cap) (n+m) (xs++i)) (c:(wr.alloc o).grownBy a v.ownBlock):
 a.heap[pb]?=some (.cells cs T (0,0))/\(∀y:ay,(a.setCell ⟨pb,j,none⟩ y).heap[pb]?=some (.cells (cs.setIfInBounds j y) T (0,0))/\(a.setCell ⟨pb,j,none⟩ y).ownsRow w0.heap.size 55 1 (.slice (some ⟨g,0,none⟩) (n+m) cap) (n+m) (xs++i)/\Fr (fun k=>k=pb) w0 (a.setCell ⟨pb,j,none⟩ y)):=by
 have h:=ak b;have r:=hF.size;have s:v.ownBlock≠some pb:=fun e=>by have:=(l.lt pb e).1;omega
 have d:a.heap[pb]?=some (.cells cs T (0,0)):=((c.block pb (by simp;omega) s.symm).trans (ai wr _ pb h)).trans b;refine⟨d,fun y=>⟨bF d j y,fE p (fun k b=>aC j y (fun e=> ?_)),?_⟩⟩
 ·have:=(p.lt k b).1;omega
 ·refine⟨c.os.trans hF.os,c.tape.trans hF.tape,c.output.trans hF.output,by have:=c.size;simp at this|-;omega,fun k b f=> ?_⟩;exact((aC j y f).trans ((c.block k (by simp;omega) (fun e=>by have:=(l.lt k e.symm).1;omega)).trans (ai wr _ k (by omega)))).trans (hF.block k b f)
theorem OE(p:Wk)(i j o:Nat)(a:j<aT p.K)(b:o=i*aT p.K):(p.X i).getD j 0=p.S.getD (o+j) 0:=by unfold Wk.X;rw[ag,dh a,gJ,<-b,<-ag]
theorem aal(s D:Nat)(hD:eG D)(h:s<2^D):nI s D<=65535:=by unfold nI;rcases hD with rfl|rfl|rfl|rfl|rfl<;>simp at h|- <;>omega
theorem adi{wx:af}{b:Nat}{e f g:ay}(a c d:ay)(h:wx.heap[b]?=some (.cells #[e,f,g] 56 (0,0))):
 (((wx.setCell ⟨b,0,none⟩ a).setCell ⟨b,1,none⟩ c).setCell ⟨b,2,none⟩ d).heap[b]?=some (.cells #[a,c,d] 56 (0,0))/\Fr (fun k=>k=b) wx (((wx.setCell ⟨b,0,none⟩ a).setCell ⟨b,1,none⟩ c).setCell ⟨b,2,none⟩ d):=by
 refine⟨?_,(((Fr.refl (fun k=>k=b) wx).set b 0 rfl a).set b 1 rfl c).set b 2 rfl d⟩;have h0:=bF h 0 a;have h1:=bF h0 1 c;have h2:=bF h1 2 d;simpa using h2
theorem ab9{S:Nat->Prop}{w0 a wx:af}{cb:Nat}(h:Fr S w0 a)(h2:Fr (fun k=>k=cb) a wx)(c:w0.heap.size<=cb):Fr S w0 wx:=
 ⟨h2.os.trans h.os,h2.tape.trans h.tape,h2.output.trans h.output,aY h.size h2.size,fun k b hS=>(h2.block k (aN b h.size) (fun e=>by omega)).trans (h.block k b hS)⟩
theorem RH(n:Nat)(h:n<4294967296):bits BinOp.and IntKind.i64 (n:Int) 255=((n%256:Nat):Int):=by have h1:=uA n 255 h (by omega);rw[show n&&&255=n%256 from lF n 8]at h1;exact h1
set_option maxRecDepth 100000 in
theorem aam(p:Wk)(hp:p.Ok)(n M:Nat)(b1 J:Nat)(a1:Option bG)(q1:Nat)(a2:Option bG)(q2:Nat)(g sc:Nat)(w0:af){c0 c2 C7 C8 C9 D0 c17 D1 D2 m5 u5 u6 u7 u8 u9 n1 n2 n3 n4 n5 n6 n7 n8 n9 o0 o1 o2 o3 o4 o5 u32 o6 o7 o8 o9 p0 p1 p2 p3 p4 p5 p6 p7 p8 p9 q4 q5 q6 q7 q8 q9 r5 r6 r7 r8 r9 s3 s4 s5 s6 s7 s8 u64 s9 t0 t1 t2 t3 t4 t5 t6 t7 t8 t9 u0 u1 u2 u3 u4 v3 v5 v7 v8 v9 w4 x0 x4 x5 x6 x7 x8 x9 y3 y4 y5 y6 y7 y8 b7 b8 b9 c1 c3 c5 c6 c7 c8 c9 d0 d1 d2 d3 d4 d5 d6 d7 d8 d9 e0 e6 e7 e8 e9 f3 f4 f5 f6 f7 f8 f9 g4 g5 g6 g9 h5 h6 h7 h8 h9 i1 i2 i3 i4 i5 i6 i7 i9 j0 j1 j2 j3 j4 j5 j6 j7 j8 j9 k0 k4:ay}{Q0:Exit->Act->af->Prop}
 (hn:n=aT p.K) (hM:M=p.W*p.H) (m6:∀e∈p.E,e<16777216) (hE:ji w0 J (.slice a1 p.E.length q1) p.E) (hC:ji w0 J (.slice a2 p.C.length q2) p.C) (hS:ji w0 J (.slice (some ⟨g,0,none⟩) p.S.length sc) p.S) (J5:p.S.length<=sc)
 (D4:w0.heap[b1]?=some (w_ p.W p.H p.K p.D p.I (.slice a1 p.E.length q1) (.slice a2 p.C.length q2) (.slice (some ⟨g,0,none⟩) p.S.length sc))) (D5:b1<J) (l5:w0.heap[J]?=some (Wu p.W p.H (.slice none 0 0))) (G1:u5= .int .i64 0)
 (k5:∀(pc:Nat) (pa:Option bG) (u5 u6 u7 u8 u9 n1 n2 n3 n4 n5 n6 n7 n8 n9 o0 o1 o2 o3 o4 o5 u32 o6 o7 o8 o9 p0 p1 p2 p3 p4 p5 p6 p7 p8 p9 q4 q5 q6 q7 q8 q9 r5 r6 r7 r8 r9 s3 s4 s5 s6 s7 s8 u64 s9 t0 t1 t2 t3 t4 t5 t6 t7 t8 t9 u0 u1 u2 u3 u4 v3 v5 v7 v8 v9 w4 x0 x4 x5 x6 x7 x8 x9 y3 y4 y5 y6 y7 y8 b7 b8 b9 c1 c3 c5 c6 c7 c8 c9 d0 d1 d2 d3 d4 d5 d6 d7 d8 d9 e0 e6 e7 e8 e9 f3 f4 f5 f6 f7 f8 f9 g4 g5 g6 g9 h5 h6 h7 h8 h9 i1 i2 i3 i4 i5 i6 i7 i9 j0 j1 j2 j3 j4 j5 j6 j7 j8 j9 k0 k4:ay) (wx:af),wx.heap[J]?=some (Wu p.W p.H (.slice pa (4*M) pc))->wx.ownsRow w0.heap.size 55 1 (.slice pa (4*M) pc) (4*M) (dm (pU p.q M))->Fr (fun k=>k=J) w0 wx->Q0 (.exit 0) ⟨#[c0,.pointer (some ⟨b1,0,none⟩),c2,.pointer (some ⟨J,0,none⟩),.int .i64 (n:Int),u5,u6,u7,u8,u9,n1,n2,n3,C7,C8,C9,D0,c17,D1,D2,n4,n5,n6,n7,n8,n9,o0,o1,o2,o3,o4,o5,u32,o6,o7,o8,o9,p0,p1,p2,p3,p4,p5,p6,p7,p8,p9,q4,q5,q6,q7,q8,q9,r5,r6,r7,r8,r9,s3,s4,s5,s6,s7,s8,u64,s9,t0,t1,t2,t3,t4,t5,t6,t7,t8,t9,u0,u1,u2,u3,u4,v3,v5,v7,v8,v9,w4,x0,x4,x5,x6,x7,x8,x9,y3,y4,y5,y6,y7,y8,b7,b8,b9,c1,c3,c5,c6,c7,c8,c9,d0,d1,d2,d3,d4,d5,d6,d7,d8,d9,e0,e6,e7,e8,e9,f3,f4,f5,f6,f7,f8,f9,g4,g5,g6,g9,h5,h6,h7,h8,h9,i1,i2,i3,i4,i5,i6,i7,i9,j0,j1,j2,j3,j4,j5,j6,j7,j8,j9,k0,k4,m5],[]⟩ wx):
 Code.wp prog imL (mY Q0) ⟨#[c0,.pointer (some ⟨b1,0,none⟩),c2,.pointer (some ⟨J,0,none⟩),.int .i64 (n:Int),u5,u6,u7,u8,u9,n1,n2,n3,C7,C8,C9,D0,c17,D1,D2,n4,n5,n6,n7,n8,n9,o0,o1,o2,o3,o4,o5,u32,o6,o7,o8,o9,p0,p1,p2,p3,p4,p5,p6,p7,p8,p9,q4,q5,q6,q7,q8,q9,r5,r6,r7,r8,r9,s3,s4,s5,s6,s7,s8,u64,s9,t0,t1,t2,t3,t4,t5,t6,t7,t8,t9,u0,u1,u2,u3,u4,v3,v5,v7,v8,v9,w4,x0,x4,x5,x6,x7,x8,x9,y3,y4,y5,y6,y7,y8,b7,b8,b9,c1,c3,c5,c6,c7,c8,c9,d0,d1,d2,d3,d4,d5,d6,d7,d8,d9,e0,e6,e7,e8,e9,f3,f4,f5,f6,f7,f8,f9,g4,g5,g6,g9,h5,h6,h7,h8,h9,i1,i2,i3,i4,i5,i6,i7,i9,j0,j1,j2,j3,j4,j5,j6,j7,j8,j9,k0,k4,m5],[]⟩ w0:=by
 have G2:M<=20*20:=by rw[hM];exact bD hp.w2 hp.h2
 have G3:1<=n/\n<=4:=by rw[hn];rcases hp.kinds with e|e|e|e|e<;>rw[e]<;>decide
 have v1:(p.W:Int)*(p.H:Int)=(M:Int):=by rw[<-jK,<-hM]
 have y9:p.S.length=M*n:=by rw[hp.sl,hM,hn]
 have K6:p.S.length<=20*20*4:=by rw[y9];exact bD G2 G3.2
 have a4:au (J<w0.heap.size/\b1<w0.heap.size):=(⟨ak l5,rH D5 (ak l5)⟩:_/\_);have z4:au (∀wx,Fr (fun k=>k=J) w0 wx->wx.heap[b1]?=some (w_ p.W p.H p.K p.D p.I (.slice a1 p.E.length q1) (.slice a2 p.C.length q2) (.slice (some ⟨g,0,none⟩) p.S.length sc))):=(fun wx hf=>(hf.block b1 a4.out.2 (by omega)).trans D4:∀wx,_);have b2:au (∀wx,Fr (fun k=>k=J) w0 wx->∀j,j<p.S.length->wx.cell? ⟨g,j,none⟩=some (.int .i64 ((p.S.getD j 0:Nat):Int))):=(fun wx hf j hj=>by
  obtain⟨la,cap,e,_,h2⟩:=(hS.over (fun k hk=>hf.block k (rH hk a4.out.1) (by omega)):ji wx J _ _).at';obtain⟨a,g1,g2,g3⟩:=h2 j hj;injection e with e1 _ _
  rw[<-e1]at g1;injection g1 with g1
  rw[<-g1,Addr.add_mid,fQ]at g3;exact g3:∀wx,_)
 have G4:au (∀wx,Fr (fun k=>k=J) w0 wx->∀j,j<p.E.length->∃a:bG,a1=some a/\wx.cell? (a.add j)=some (.int .i64 ((p.E.getD j 0:Nat):Int))):=(fun wx hf j hj=>by
  obtain⟨la,cap,e,_,h2⟩:=(hE.over (fun k hk=>hf.block k (rH hk a4.out.1) (by omega)):ji wx J _ _).at';obtain⟨a,g1,g2,g3⟩:=h2 j hj;injection e with e1 _ _
  exact⟨a,e1.trans g1,g3⟩:∀wx,_)
 have D6:au (∀wx,Fr (fun k=>k=J) w0 wx->∀j,j<p.C.length->∃a:bG,a2=some a/\wx.cell? (a.add j)=some (.int .i64 ((p.C.getD j 0:Nat):Int))):=(fun wx hf j hj=>by
  obtain⟨la,cap,e,_,h2⟩:=(hC.over (fun k hk=>hf.block k (rH hk a4.out.1) (by omega)):ji wx J _ _).at';obtain⟨a,g1,g2,g3⟩:=h2 j hj;injection e with e1 _ _
  exact⟨a,e1.trans g1,g3⟩:∀wx,_)
 have y:au _:=hp;have G5:au _:=k5;have G6:au _:=l5;have D7:au _:=m6;have D8:au (M=p.W*p.H):=(hM:_=_);have f:au (n=aT p.K/\p.S.length=M*n):=(⟨hn,y9⟩:_/\_);clear hE hC hS k5 D4 l5 m6 hn hM y9 hp;generalize K7:p.S.length=sn at*;generalize G7:p.E.length=en at*;generalize a0:p.C.length=cn at*;subst G1;conv=>arg 2;whnf
 dsimp only;go_loopw [5] (fun iv wr=> ∃(i m pc:Nat) (pa:Option bG),iv= .int .i64 (i:Int)/\i<=M/\au (m=4*i)/\au (wr.heap[J]?=some (Wu p.W p.H (.slice pa m pc)))/\au (wr.ownsRow w0.heap.size 55 1 (.slice pa m pc) m (dm (pU p.q i)))/\au (Fr (fun k=>k=J) w0 wr)) (fun iv _=>M-(bH iv).toNat)
 case atStart=>exact⟨0,0,0,none,rfl,aX _,(rfl:_=_),G6,(eX _ _ _ _:World.ownsRow _ _ _ _ _ _ _),(Fr.refl _ _:Fr _ _ _)⟩
 case round=>
  obtain⟨i,m,pc,pa,rfl,hi,z8,l6,HOr,L⟩:=hrel;have z:=z4.out wr L.out;have z0:wr.cell? ⟨b1,0,none⟩=some (.int .i64 (p.W:Int)):=by simpa using(cell_of z 0).1
  have z1:wr.cell? ⟨b1,1,none⟩=some (.int .i64 (p.H:Int)):=by simpa using(cell_of z 1).1
  by_cases z9:i<M;rotate_left
  ·have G8:¬((i:Int)<(M:Int)):=by omega
   have G9:au (i=M):=(by omega:_=_);clear z;go_wp2_with fail
   have e:=G9.out;subst e;have e2:=z8.out;subst e2;exact G5.out pc pa _ _ _ _ _ _ _ _ _ _ _ _ _ _ _ _ _ _ _ _ _ _ _ _ _ _ _ _ _ _ _ _ _ _ _ _ _ _ _ _ _ _ _ _ _ _ _ _ _ _ _ _ _ _ _ _ _ _ _ _ _ _ _ _ _ _ _ _ _ _ _ _ _ _ _ _ _ _ _ _ _ _ _ _ _ _ _ _ _ _ _ _ _ _ _ _ _ _ _ _ _ _ _ _ _ _ _ _ _ _ _ _ _ _ _ _ _ _ _ _ _ _ _ _ _ _ _ _ _ _ _ _ _ _ _ _ _ _ _ _ _ _ _ _ _ _ _ _ _ _ l6.out HOr.out L.out
  ·have G8:(i:Int)<(M:Int):=by omega
   have z7:wr.cell? ⟨b1,7,none⟩=some (.slice (some ⟨g,0,none⟩) sn sc):=by simpa using(cell_of z 7).1
   have z2:wr.cell? ⟨b1,2,none⟩=some (.int .i64 (p.K:Int)):=by simpa using(cell_of z 2).1
   obtain⟨o,ho⟩:∃o,o=i*n:=⟨_,rfl⟩;have K8:(i:Int)*(n:Int)=(o:Int):=by rw[<-jK,<-ho]
   have K9:o+n<=sn:=by have h1:(i+1)*n<=M*n:=dM _ z9;rw[eF,m_,<-ho,<-f.out.2]at h1;exact h1
   have HO:au _:=ho;have J6:(o:Int)+(n:Int)<=(sc:Int):=by omega
   clear ho z;go_upto_block 2 with fail
   have R:au ((wr.alloc (.cells #[.int .u16 0,.int .u16 0,.int .u16 0] 56)).heap[wr.heap.size]?=some (.cells #[.int .u16 0,.int .u16 0,.int .u16 0] 56 (0,0))):=(aP wr _:_=_);have b4:au (Fr (fun k=>k=J) w0 (wr.alloc (.cells #[.int .u16 0,.int .u16 0,.int .u16 0] 56))):=(L.out.alloc _:Fr _ _ _);have l7:au ((wr.alloc (.cells #[.int .u16 0,.int .u16 0,.int .u16 0] 56)).heap[J]?=some (Wu p.W p.H (.slice pa m pc))):=((ai wr _ J (ak l6.out)).trans l6.out:_=_);have l8:au ((wr.alloc (.cells #[.int .u16 0,.int .u16 0,.int .u16 0] 56)).ownsRow w0.heap.size 55 1 (.slice pa m pc) m (dm (pU p.q i))):=(HOr.out.alloc _:World.ownsRow _ _ _ _ _ _ _);have k6:au ((Value.slice pa m pc).ownBlock≠some wr.heap.size/\w0.heap.size<=wr.heap.size):=(⟨fun e=>by have:=(HOr.out.lt _ e).2;omega,L.out.size⟩:_/\_);revert R b4 l7 l8 k6;generalize wr.alloc _=l;generalize wr.heap.size=cb;intro R b4 l7 l8 k6;clear L l6 HOr z0 z1 z2 z7;have z:=z4.out l b4.out;have z2:l.cell? ⟨b1,2,none⟩=some (.int .i64 (p.K:Int)):=by simpa using(cell_of z 2).1
   have z3:l.cell? ⟨b1,3,none⟩=some (.int .i64 (p.D:Int)):=by simpa using(cell_of z 3).1
   have z5:l.cell? ⟨b1,5,none⟩=some (.slice a1 en q1):=by simpa using(cell_of z 5).1
   have z6:l.cell? ⟨b1,6,none⟩=some (.slice a2 cn q2):=by simpa using(cell_of z 6).1
   have y0:l.cell? ⟨cb,0,none⟩=some (.int .u16 0):=by simpa using(cell_of R.out 0).1
   have y1:l.cell? ⟨cb,1,none⟩=some (.int .u16 0):=by simpa using(cell_of R.out 1).1
   have y2:l.cell? ⟨cb,2,none⟩=some (.int .u16 0):=by simpa using(cell_of R.out 2).1
   have f0:l.frozen? ⟨cb,0,none⟩=false:=by simpa using(cell_of R.out 0).2
   have f1:l.frozen? ⟨cb,1,none⟩=false:=by simpa using(cell_of R.out 1).2
   have f2:l.frozen? ⟨cb,2,none⟩=false:=by simpa using(cell_of R.out 2).2
   have HJ:au (∀wx,Fr (fun k=>k=cb) l wx->Fr (fun k=>k=J) w0 wx):=(fun wx h=>ab9 b4.out h k6.out.2:∀wx,_);have HZ:au (∀wx,Fr (fun k=>k=cb) l wx->wx.cell? ⟨b1,2,none⟩=some (.int .i64 (p.K:Int))/\wx.cell? ⟨b1,3,none⟩=some (.int .i64 (p.D:Int))/\wx.cell? ⟨b1,5,none⟩=some (.slice a1 en q1)/\wx.cell? ⟨b1,6,none⟩=some (.slice a2 cn q2)):=(fun wx h=>by have hb:=z4.out wx (HJ.out wx h);exact⟨by simpa using(cell_of hb 2).1,by simpa using(cell_of hb 3).1,by simpa using(cell_of hb 5).1,by simpa using(cell_of hb 6).1⟩:∀wx,_)
   clear z;obtain⟨Y,s,w,q3,c⟩:∃Y q1 q2 q3,p.q i=(Y,q1,q2,q3):=⟨_,_,_,_,rfl⟩;have HQ:au _:=c;clear c;rw[show o+n-o=n by omega];go_cut [7,9,10]from 20 to 109 (fun v _ _ wx=> ∃cv:Nat,v= .int .u16 (cv:Int)/\cv<=65535/\au ((p.K=3->cv=q3)/\(p.K≠3->cv=65535))/\au (wx.heap[cb]?=some (.cells #[.int .u16 (Y:Int),.int .u16 (s:Int),.int .u16 (w:Int)] 56 (0,0)))/\au (Fr (fun k=>k=cb) l wx))
   case first=>
    by_cases k3:p.K=3
    ·have k7:((p.K:Int)==3)=true:=by rw[mD];omega
     have H2:n=1:=by rw[f.out.1,k3];rfl
     obtain⟨T,a5⟩:∃T,T=p.S.getD o 0:=⟨_,rfl⟩;have N:l.cell? ⟨g,o,none⟩=some (.int .i64 (T:Int)):=by rw[a5];exact b2.out l b4.out o (by omega)
     have D9:T<en:=by rw[a5,<-G7];exact nT (y.out.e3 k3).2.2.2.1 (by have:=(y.out.e3 k3).1;omega) o
     obtain⟨ae,rfl,E0⟩:=G4.out l b4.out T D9;obtain⟨ee,l9⟩:∃ee,ee=p.E.getD T 0:=⟨_,rfl⟩;rw[<-l9]at E0;have H3:ee<16777216:=by rw[l9];exact nT D7.out (by omega) T
     have E1:(0:Int)<=(T:Int)/\(T:Int)<(en:Int):=by omega
     obtain⟨J7,J8⟩:=E1;clear H2;have U:au _:=k3;clear k3;clear y0 y1 y2 f0 f1 f2;obtain⟨x1,A0⟩:∃x,x=ee/65536%256:=⟨_,rfl⟩;obtain⟨x2,A1⟩:∃x,x=ee/256%256:=⟨_,rfl⟩;obtain⟨x3,A2⟩:∃x,x=ee%256:=⟨_,rfl⟩;have m0:au (∀x r:Nat,x<256->r=257*x->∀wx:af,aH prog 22 #[.int .i64 (x:Int),.int .i64 8] wx fun e w'=>e= .returned (.int .u16 (r:Int))/\w'=wx):=(fun x r hx hr wx=>by rw[hr];have:=yx x 8 wx (by unfold eG;omega) hx;rw[show nI x 8=257*x by unfold nI;simp;omega]at this;exact this:∀x,_)
     have A3:au (T=p.S.getD o 0/\ee=p.E.getD T 0/\x1=ee/65536%256/\x2=ee/256%256/\x3=ee%256):=(⟨a5,l9,A0,A1,A2⟩:_/\_/\_/\_/\_);have H4:bits BinOp.and IntKind.i64 ((ee:Int)/65536) 255=(x1:Int):=by rw[A0,<-RH (ee/65536) (by omega)];rfl
     have H5:bits BinOp.and IntKind.i64 ((ee:Int)/256) 255=(x2:Int):=by rw[A1,<-RH (ee/256) (by omega)];rfl
     have H6:bits BinOp.and IntKind.i64 (ee:Int) 255=(x3:Int):=by rw[A2,<-RH ee (by omega)]
     have E2:x1<256:=by omega
     have E3:x2<256:=by omega
     have E4:x3<256:=by omega
     obtain⟨r1,P⟩:∃r,r=257*x1:=⟨_,rfl⟩;obtain⟨r2,a6⟩:∃r,r=257*x2:=⟨_,rfl⟩;obtain⟨r3,A4⟩:∃r,r=257*x3:=⟨_,rfl⟩;have k8:au _:=m0.out x1 r1 E2 P;have A5:au _:=m0.out x2 r2 E3 a6;have H7:au _:=m0.out x3 r3 E4 A4;have A6:au (r1=257*x1/\r2=257*x2/\r3=257*x3):=(⟨P,a6,A4⟩:_/\_/\_);have k9:r1<=65535:=by omega
     have E5:r2<=65535:=by omega
     clear a5 l9 A0 A1 A2 P a6 A4;go_upto_region 11 with fail
     go_quiet (fail)
     have A:au (Fr (fun k=>k=cb) l (l.drewN nq)):=((Fr.refl _ _).drewN nq:Fr _ _ _);have d:au ((l.drewN nq).heap[cb]?=some (.cells #[.int .u16 0,.int .u16 0,.int .u16 0] 56 (0,0))):=(R.out:_=_);clear z2 z3 z5 z6 N E0;revert A d;generalize l.drewN nq=w6;intro A d;have y0:w6.cell? ⟨cb,0,none⟩=some (.int .u16 0):=by simpa using(cell_of d.out 0).1
     have y1:w6.cell? ⟨cb,1,none⟩=some (.int .u16 0):=by simpa using(cell_of d.out 1).1
     have y2:w6.cell? ⟨cb,2,none⟩=some (.int .u16 0):=by simpa using(cell_of d.out 2).1
     have f0:w6.frozen? ⟨cb,0,none⟩=false:=by simpa using(cell_of d.out 0).2
     have f1:w6.frozen? ⟨cb,1,none⟩=false:=by simpa using(cell_of d.out 1).2
     have f2:w6.frozen? ⟨cb,2,none⟩=false:=by simpa using(cell_of d.out 2).2
     go_wp2_with fail
     refine aU (k8.out _) ?_;rintro e w7 ⟨rfl,V⟩;have V:=V.symm;subst V;go_wp2_with fail
     refine aU (A5.out _) ?_;rintro e w7 ⟨rfl,V⟩;have V:=V.symm;subst V;go_wp2_with fail
     refine aU (H7.out _) ?_;rintro e w7 ⟨rfl,V⟩;have V:=V.symm;subst V;go_upto_region 13 with fail
     have G:au _:=adi (.int .u16 (r1:Int)) (.int .u16 (r2:Int)) (.int .u16 (r3:Int)) d.out;revert G;generalize World.setCell _ _ _=w7;intro G;have F:au (Fr (fun k=>k=cb) l w7):=(A.out.trans G.out.2:Fr _ _ _);have a3:au (Y=257*x1/\s=257*x2/\w=257*x3/\q3=if T<cn then 257*p.C.getD T 0 else 65535):=(by
      obtain⟨e1,e2,e3,e4,e5⟩:=A3.out;have c:=HQ.out;unfold Wk.q at c;rw[aG U.out,OE p i 0 o (by rw[<-f.out.1];omega) (by rw[<-f.out.1];exact HO.out),cO,<-e1,<-e2,<-e3,<-e4,<-e5,a0]at c;injection c with h1 c
      injection c with h2 c
      injection c with h3 h4
      exact⟨h1.symm,h2.symm,h3.symm,h4.symm⟩:_/\_/\_/\_)
     have Q:au (w7.heap[cb]?=some (.cells #[.int .u16 (Y:Int),.int .u16 (s:Int),.int .u16 (w:Int)] 56 (0,0))):=(by rw[a3.out.1,a3.out.2.1,a3.out.2.2.1,<-A6.out.1,<-A6.out.2.1,<-A6.out.2.2];exact G.out.1:_=_);clear y0 y1 y2 f0 f1 f2 G d A H4 H5 H6;obtain⟨z2,z3,z5,z6⟩:=HZ.out w7 F.out;have N:w7.cell? ⟨g,o,none⟩=some (.int .i64 (T:Int)):=by rw[A3.out.1];exact b2.out w7 (HJ.out w7 F.out) o (by omega)
     go_quiet (fail)
     have B:au (Fr (fun k=>k=cb) l (w7.drewN nq)):=(F.out.drewN nq:Fr _ _ _);have O:au ((w7.drewN nq).heap[cb]?=some (.cells #[.int .u16 (Y:Int),.int .u16 (s:Int),.int .u16 (w:Int)] 56 (0,0))):=(Q.out:_=_);clear z2 z3 z5 z6 N F Q;revert B O;generalize w7.drewN nq=w8;intro B O;by_cases l0:T<cn
     ·have A7:(T:Int)<(cn:Int):=by omega
      obtain⟨ac,rfl,A8⟩:=D6.out w8 (HJ.out w8 B.out) T l0;obtain⟨m2,a7⟩:∃x,x=p.C.getD T 0:=⟨_,rfl⟩;have E6:m2<256:=by rw[a7];have:=nT (b:=256) (fun x hx=>Nat.lt_succ_of_le ((y.out.e3 U.out).2.2.2.2.1 x hx)) (by omega) T;exact this
      have Z:au (q3=257*m2):=(by rw[a3.out.2.2.2,aG l0,a7]:_=_);rw[<-a7]at A8;obtain⟨r4,A9⟩:∃r,r=257*m2:=⟨_,rfl⟩;have H8:au _:=m0.out m2 r4 E6 A9;rw[<-A9]at Z;have J9:r4<=65535:=by omega
      clear a7 A9;obtain⟨z2,z3,z5,z6⟩:=HZ.out w8 B.out;have N:w8.cell? ⟨g,o,none⟩=some (.int .i64 (T:Int)):=by rw[A3.out.1];exact b2.out w8 (HJ.out w8 B.out) o (by omega)
      go_wp2_with fail
      go_quiet ((go_at_call 22;exact iP (H8.out _)))
      have H9:au (Fr (fun k=>k=cb) l (w8.drewN nq)):=(B.out.drewN nq:Fr _ _ _);have I0:au ((w8.drewN nq).heap[cb]?=some (.cells #[.int .u16 (Y:Int),.int .u16 (s:Int),.int .u16 (w:Int)] 56 (0,0))):=(O.out:_=_);go_wp2_with fail
      go_meet
      case rel=>exact⟨r4,rfl,by omega,(⟨fun _=>Z.out.symm,fun h=>absurd U.out h⟩:_/\_),I0,H9⟩
     ·have A7:¬((T:Int)<(cn:Int)):=by omega
      have Z:au (q3=65535):=(by rw[a3.out.2.2.2,ax l0]:_=_);go_wp2_with fail
      go_meet
      case rel=>exact⟨65535,rfl,by omega,(⟨fun _=>Z.out.symm,fun h=>absurd U.out h⟩:_/\_),O,B⟩
    ·have k7:((p.K:Int)==3)=false:=by rw[aI];omega
     have U:au _:=k3;have B0:au (∀j r:Nat,j<n->r=nI (p.S.getD (o+j) 0) p.D->(r<=65535/\∀wx:af,aH prog 22 #[.int .i64 ((p.S.getD (o+j) 0:Nat):Int),.int .i64 (p.D:Int)] wx fun e w'=>e= .returned (.int .u16 (r:Int))/\w'=wx)):=(fun j r hj hr=>by have hb:=nT y.out.sx (kS _) (o+j);rw[hr];exact⟨aal _ _ y.out.depth hb,fun wx=>yx _ _ wx y.out.depth hb⟩:∀j,_)
     have B1:au (∀wx,Fr (fun k=>k=cb) l wx->∀j,j<n->wx.cell? ⟨g,o+j,none⟩=some (.int .i64 ((p.S.getD (o+j) 0:Nat):Int))):=(fun wx h j hj=>b2.out wx (HJ.out wx h) (o+j) (by omega):∀wx,_);obtain⟨T,a5⟩:∃T,T=p.S.getD (o+0) 0:=⟨_,rfl⟩;obtain⟨r0,B3⟩:∃r,r=nI (p.S.getD (o+0) 0) p.D:=⟨_,rfl⟩;obtain⟨K0,B4⟩:=B0.out 0 r0 (by omega) B3;have N:=B1.out l (Fr.refl _ _) 0 (by omega);rw[<-a5]at B4 N;rw[cO]at N;have E7:au _:=B4;have E8:au _:=B3;clear B4 B3 a5 k3;by_cases L0:n<3
     ·have E9:(n:Int)<3:=by omega
      have a8:au (Y=r0/\s=r0/\w=r0):=(by
       have c:=HQ.out;unfold Wk.q at c;rw[ax U.out,OE p i 0 o (by rw[<-f.out.1];omega) (by rw[<-f.out.1];exact HO.out),<-E8.out]at c;have b5:p.K=0\/p.K=4:=by
        have h1:=f.out.1;rcases y.out.kinds with e|e|e|e|e
        ·exact .inl e
        ·rw[e]at h1;have:aT 2=3:=rfl;omega
        ·exact absurd e U.out
        ·exact .inr e
        ·rw[e]at h1;have:aT 6=4:=rfl;omega
       rcases b5 with e|e
       ·rw[ax (by omega),ax (by omega),aG e]at c;injection c with h1 c
        injection c with h2 c
        injection c with h3 h4
        exact⟨h1.symm,h2.symm,h3.symm⟩
       ·rw[aG e]at c;injection c with h1 c
        injection c with h2 c
        injection c with h3 h4
        exact⟨h1.symm,h2.symm,h3.symm⟩:_/\_/\_)
      go_upto_region 16 with fail
      go_quiet ((go_at_call 22;exact iP (E7.out _)))
      have A:au (Fr (fun k=>k=cb) l (l.drewN nq)):=((Fr.refl _ _).drewN nq:Fr _ _ _);have d:au ((l.drewN nq).heap[cb]?=some (.cells #[.int .u16 0,.int .u16 0,.int .u16 0] 56 (0,0))):=(R.out:_=_);clear z2 z3 z5 z6 N y0 y1 y2 f0 f1 f2;revert A d;generalize l.drewN nq=w6;intro A d;have y0:w6.cell? ⟨cb,0,none⟩=some (.int .u16 0):=by simpa using(cell_of d.out 0).1
      have y1:w6.cell? ⟨cb,1,none⟩=some (.int .u16 0):=by simpa using(cell_of d.out 1).1
      have y2:w6.cell? ⟨cb,2,none⟩=some (.int .u16 0):=by simpa using(cell_of d.out 2).1
      have f0:w6.frozen? ⟨cb,0,none⟩=false:=by simpa using(cell_of d.out 0).2
      have f1:w6.frozen? ⟨cb,1,none⟩=false:=by simpa using(cell_of d.out 1).2
      have f2:w6.frozen? ⟨cb,2,none⟩=false:=by simpa using(cell_of d.out 2).2
      go_wp2_with fail
      have G:au _:=adi (.int .u16 (r0:Int)) (.int .u16 (r0:Int)) (.int .u16 (r0:Int)) d.out;revert G;generalize World.setCell _ _ _=w7;intro G;have F:au (Fr (fun k=>k=cb) l w7):=(A.out.trans G.out.2:Fr _ _ _);have Q:au (w7.heap[cb]?=some (.cells #[.int .u16 (Y:Int),.int .u16 (s:Int),.int .u16 (w:Int)] 56 (0,0))):=(by rw[a8.out.1,a8.out.2.1,a8.out.2.2];exact G.out.1:_=_);go_meet
      case rel=>exact⟨65535,rfl,by omega,(⟨fun h=>absurd h U.out,fun _=>rfl⟩:_/\_),Q,F⟩
     ·have E9:¬((n:Int)<3):=by omega
      have K1:(1:Int)<(n:Int):=by omega
      have K2:(2:Int)<(n:Int):=by omega
      obtain⟨s1,a9⟩:∃s1,s1=p.S.getD (o+1) 0:=⟨_,rfl⟩;obtain⟨r1,P⟩:∃r,r=nI (p.S.getD (o+1) 0) p.D:=⟨_,rfl⟩;obtain⟨k9,B5⟩:=B0.out 1 r1 (by omega) P;have l1:=B1.out l (Fr.refl _ _) 1 (by omega);rw[<-a9]at B5 l1;obtain⟨s2,F0⟩:∃s2,s2=p.S.getD (o+2) 0:=⟨_,rfl⟩;obtain⟨r2,a6⟩:∃r,r=nI (p.S.getD (o+2) 0) p.D:=⟨_,rfl⟩;obtain⟨E5,B6⟩:=B0.out 2 r2 (by omega) a6;have m7:=B1.out l (Fr.refl _ _) 2 (by omega);rw[<-F0]at B6 m7;have a8:au (Y=r0/\s=r1/\w=r2):=(by
       have c:=HQ.out;unfold Wk.q at c;have b5:p.K=2\/p.K=6:=by
        have h1:=f.out.1;rcases y.out.kinds with e|e|e|e|e
        ·rw[e]at h1;have:aT 0=1:=rfl;omega
        ·exact .inl e
        ·exact absurd e U.out
        ·rw[e]at h1;have:aT 4=2:=rfl;omega
        ·exact .inr e
       have g0:=OE p i 0 o (by rw[<-f.out.1];omega) (by rw[<-f.out.1];exact HO.out);have g1:=OE p i 1 o (by rw[<-f.out.1];omega) (by rw[<-f.out.1];exact HO.out);have g2:=OE p i 2 o (by rw[<-f.out.1];omega) (by rw[<-f.out.1];exact HO.out);rw[ax U.out,ax (by omega),g0,g1,g2,<-E8.out,<-P,<-a6]at c;rcases b5 with e|e
       ·rw[ax (by omega),ax (by omega)]at c;injection c with h1 c
        injection c with h2 c
        injection c with h3 h4
        exact⟨h1.symm,h2.symm,h3.symm⟩
       ·rw[aG e]at c;injection c with h1 c
        injection c with h2 c
        injection c with h3 h4
        exact⟨h1.symm,h2.symm,h3.symm⟩:_/\_/\_)
      have k8:au _:=B5;have A5:au _:=B6;clear B5 B6 P a6 a9 F0 y0 y1 y2 f0 f1 f2;go_upto_region 9 with fail
      refine Qt.yl 18 (by kernel_rfl) (by kernel_rfl) ?_;simp only[List.take_succ_cons,List.take_zero,List.drop_succ_cons,List.drop_zero];repeat (go_big_quiet_step ((go_at_call 22;(first|(with_reducible exact iP (E7.out _))|(with_reducible exact iP (k8.out _))|(with_reducible exact iP (A5.out _))))))
      refine wpQuiet_nil ?_;intro _ I1;obtain⟨nq,F1⟩:=I1;subst F1;have A:au (Fr (fun k=>k=cb) l (l.drewN nq)):=((Fr.refl _ _).drewN nq:Fr _ _ _);have d:au ((l.drewN nq).heap[cb]?=some (.cells #[.int .u16 0,.int .u16 0,.int .u16 0] 56 (0,0))):=(R.out:_=_);clear z2 z3 z5 z6 N l1 m7;revert A d;generalize l.drewN nq=w6;intro A d;have y0:w6.cell? ⟨cb,0,none⟩=some (.int .u16 0):=by simpa using(cell_of d.out 0).1
      have y1:w6.cell? ⟨cb,1,none⟩=some (.int .u16 0):=by simpa using(cell_of d.out 1).1
      have y2:w6.cell? ⟨cb,2,none⟩=some (.int .u16 0):=by simpa using(cell_of d.out 2).1
      have f0:w6.frozen? ⟨cb,0,none⟩=false:=by simpa using(cell_of d.out 0).2
      have f1:w6.frozen? ⟨cb,1,none⟩=false:=by simpa using(cell_of d.out 1).2
      have f2:w6.frozen? ⟨cb,2,none⟩=false:=by simpa using(cell_of d.out 2).2
      go_wp2_with fail
      have G:au _:=adi (.int .u16 (r0:Int)) (.int .u16 (r1:Int)) (.int .u16 (r2:Int)) d.out;revert G;generalize World.setCell _ _ _=w7;intro G;have F:au (Fr (fun k=>k=cb) l w7):=(A.out.trans G.out.2:Fr _ _ _);have Q:au (w7.heap[cb]?=some (.cells #[.int .u16 (Y:Int),.int .u16 (s:Int),.int .u16 (w:Int)] 56 (0,0))):=(by rw[a8.out.1,a8.out.2.1,a8.out.2.2];exact G.out.1:_=_);go_meet
      case rel=>exact⟨65535,rfl,by omega,(⟨fun h=>absurd h U.out,fun _=>rfl⟩:_/\_),Q,F⟩
   case rest=>
    obtain⟨cv,rfl,I2,Z,d,A⟩:=hcut;clear z2 z3 z5 z6 y0 y1 y2 f0 f1 f2 R;obtain⟨z2,z3,z5,z6⟩:=HZ.out wc A.out;have F2:(n:Int).tmod 2=((n%2:Nat):Int):=by rw[u_ (by omega)];omega
    go_upto_if 112 with fail
    go_cut [7]from 110 to 120 (fun v wx=> ∃ck:Nat,v= .int .u16 (ck:Int)/\ck<=65535/\au ((p.K=0\/p.K=2->ck=65535)/\(¬(p.K=0\/p.K=2)->ck=q3))/\au (wx.heap[cb]?=some (.cells #[.int .u16 (Y:Int),.int .u16 (s:Int),.int .u16 (w:Int)] 56 (0,0)))/\au (Fr (fun k=>k=cb) l wx))
    case first=>
     by_cases F3:n%2=0
     ·have F4:(((n%2:Nat):Int)==0)=true:=by rw[mD];omega
      obtain⟨m1,I3⟩:∃m1,n=m1+1:=⟨n-1,by omega⟩;have K3:(n:Int)-1=(m1:Int):=by omega
      have K4:(m1:Int)<(n:Int):=by omega
      have b5:p.K=4\/p.K=6:=by
       have h1:=f.out.1;rcases y.out.kinds with e|e|e|e|e
       ·rw[e]at h1;have:aT 0=1:=rfl;omega
       ·rw[e]at h1;have:aT 2=3:=rfl;omega
       ·rw[e]at h1;have:aT 3=1:=rfl;omega
       ·exact .inl e
       ·exact .inr e
      obtain⟨s1,a9⟩:∃s1,s1=p.S.getD (o+m1) 0:=⟨_,rfl⟩;obtain⟨r1,P⟩:∃r,r=nI s1 p.D:=⟨_,rfl⟩;have l1:wc.cell? ⟨g,o+m1,none⟩=some (.int .i64 (s1:Int)):=by rw[a9];exact b2.out wc (HJ.out wc A.out) (o+m1) (by omega)
      have B7:s1<2^p.D:=by rw[a9];exact nT y.out.sx (kS _) (o+m1)
      have k9:r1<=65535:=by rw[P];exact aal _ _ y.out.depth B7
      have k8:au (∀wx:af,aH prog 22 #[.int .i64 (s1:Int),.int .i64 (p.D:Int)] wx fun e w'=>e= .returned (.int .u16 (r1:Int))/\w'=wx):=(fun wx=>by rw[P];exact yx _ _ wx y.out.depth B7:∀wx,_);have a3:au ((p.K=0\/p.K=2->r1=65535)/\(¬(p.K=0\/p.K=2)->r1=q3)):=(⟨fun h=>by omega,fun _=>by
       have c:=HQ.out;unfold Wk.q at c;have g1:=OE p i m1 o (by rw[<-f.out.1];omega) (by rw[<-f.out.1];exact HO.out);rw[<-a9]at g1;rcases b5 with e|e
       ·have hm:m1=1:=by have h1:=f.out.1;rw[e]at h1;have:aT 4=2:=rfl;omega
        rw[hm]at g1;rw[ax (by omega),aG e,g1,<-P]at c;injection c with h1 c
        injection c with h2 c
        injection c with h3 h4
       ·have hm:m1=3:=by have h1:=f.out.1;rw[e]at h1;have:aT 6=4:=rfl;omega
        rw[hm]at g1;rw[ax (by omega),ax (by omega),aG e,g1,<-P]at c;injection c with h1 c
        injection c with h2 c
        injection c with h3 h4⟩:_/\_)
      clear a9 P B7 I3 b5 F3;go_wp2_with fail
      go_quiet ((go_at_call 22;exact iP (k8.out _)))
      have F:au (Fr (fun k=>k=cb) l (wc.drewN nq)):=(A.out.drewN nq:Fr _ _ _);have Q:au ((wc.drewN nq).heap[cb]?=some (.cells #[.int .u16 (Y:Int),.int .u16 (s:Int),.int .u16 (w:Int)] 56 (0,0))):=(d.out:_=_);go_wp2_with fail
      go_meet
      case rel=>exact⟨r1,rfl,k9,a3,Q,F⟩
     ·have F4:(((n%2:Nat):Int)==0)=false:=by rw[aI];omega
      have a3:au ((p.K=0\/p.K=2->cv=65535)/\(¬(p.K=0\/p.K=2)->cv=q3)):=(⟨fun h=>Z.out.2 (by omega),fun h=>Z.out.1 (by
       have h1:=f.out.1;rcases y.out.kinds with e|e|e|e|e
       ·exact absurd (.inl e) h
       ·exact absurd (.inr e) h
       ·exact e
       ·rw[e]at h1;have:aT 4=2:=rfl;omega
       ·rw[e]at h1;have:aT 6=4:=rfl;omega)⟩:_/\_)
      clear F3;go_wp2_with fail
      go_meet
      case rel=>exact⟨cv,rfl,I2,a3,d,A⟩
    case rest=>
     obtain⟨ck,rfl,L1,m3,Q,F⟩:=hcut;clear z2 z3 z5 z6 d A Z F2;obtain⟨z2,z3,z5,z6⟩:=HZ.out wc F.out;obtain⟨B2,F5⟩:∃B2:Bool,B2=decide (p.K≠3/\0<cn):=⟨_,rfl⟩;have b6:au _:=F5;clear F5;go_upto_region 20 with fail
     go_cut [129]from 121 to 129 (fun v wx=>v= .bool B2/\wx=wc)
     case first=>
      by_cases k3:p.K=3
      ·have k7:((p.K:Int) !=3)=false:=by rw[di];omega
       have l2:au (B2=false):=(by rw[b6.out];simp[k3]:_=_);clear k3;go_wp2_with fail
       go_meet
       case rel=>exact⟨by rw[l2.out],rfl⟩
      ·have k7:((p.K:Int) !=3)=true:=by rw[ig];omega
       by_cases a7:0<cn
       ·have A7:(0:Int)<(cn:Int):=by omega
        have l2:au (B2=true):=(by rw[b6.out];simp[k3,a7]:_=_);clear k3;go_wp2_with fail
        go_meet
        case rel=>exact⟨by rw[l2.out],rfl⟩
       ·have A7:¬((0:Int)<(cn:Int)):=by omega
        have l2:au (B2=false):=(by rw[b6.out];simp[a7]:_=_);clear k3;go_wp2_with fail
        go_meet
        case rel=>exact⟨by rw[l2.out],rfl⟩
     case rest=>
      obtain⟨rfl,B8⟩:=hcut;have B8:=B8.symm;subst B8;go_upto_if 129 with fail
      go_cut [7,11,12]from 130 to 148 (fun v _ _ wx=>v= .int .u16 (q3:Int)/\au (wx.heap[cb]?=some (.cells #[.int .u16 (Y:Int),.int .u16 (s:Int),.int .u16 (w:Int)] 56 (0,0)))/\au (Fr (fun k=>k=cb) l wx))
      case first=>
       cases B2 with
       |false=>
        have Z:au (ck=q3):=(by
         by_cases hk:p.K=0\/p.K=2
         ·rw[m3.out.1 hk];have c:=HQ.out;unfold Wk.q at c;have L2:¬(p.K≠3/\0<cn):=of_decide_eq_false b6.out.symm;have hC:p.C=[]:=gm (by omega);have I4:¬p.X i=p.C:=fun e=>by
           have h1:=y.out.Oy (i:=i) (by rw[<-D8.out];exact z9);rw[e,hC,<-f.out.1]at h1;simp at h1;omega
          rw[ax (by omega),ax (by omega),ax (by omega),ax I4]at c;split at c
          ·injection c with h1 c
           injection c with h2 c
           injection c with h3 h4
          ·injection c with h1 c
           injection c with h2 c
           injection c with h3 h4
         ·exact m3.out.2 hk:_=_)
        go_wp2_with fail
        go_meet
        case rel=>exact⟨by rw[Z.out],Q,F⟩
       |true=>
        have F6:p.K≠3/\0<cn:=lW b6.out.symm;have l3:p.K=0\/p.K=2:=by
         rcases y.out.kinds with e|e|e|e|e
         ·exact .inl e
         ·exact .inr e
         ·exact absurd e F6.1
         ·have:=y.out.c4 (.inl e);rw[this]at a0;simp at a0;omega
         ·have:=y.out.c4 (.inr e);rw[this]at a0;simp at a0;omega
        have F7:cn=n:=by
         rcases y.out.c0 l3 with e|⟨e,_⟩
         ·rw[e]at a0;simp at a0;omega
         ·rw[f.out.1,<-e,a0]
        have m8:au _:=l3;clear F6 l3;go_wp2_with fail
        go_loopw [11,12] (fun sm kv wr=> ∃(k:Nat) (S:Bool),sm= .bool S/\kv= .int .i64 (k:Int)/\k<=n/\au (S=true↔∀j,j<k->p.C.getD j 0=p.S.getD (o+j) 0)/\au (wr.heap[cb]?=some (.cells #[.int .u16 (Y:Int),.int .u16 (s:Int),.int .u16 (w:Int)] 56 (0,0)))/\au (Fr (fun k=>k=cb) l wr)) (fun _ kv _=>n-(bH kv).toNat)
        case atStart=>exact⟨0,true,rfl,rfl,aX _,(⟨fun _ j hj=>absurd hj (Nat.not_lt_zero _),fun _=>rfl⟩:_↔_),Q,F⟩
        case round=>
         obtain⟨k,S,rfl,rfl,hk,B9,l4,L⟩:=hrel;clear z2 z3 z5 z6 Q F;by_cases L3:k<n;rotate_left
         ·have k7:¬((k:Int)<(n:Int)):=by omega
          have F8:au (q3=if S=true then 0 else 65535):=(by
           have c:=HQ.out;unfold Wk.q at c;have F9:=y.out.Oy (i:=i) (by rw[<-D8.out];exact z9);have m9:p.X i=p.C↔S=true:=by
            rw[B9.out];constructor
            ·intro e j hj;rw[<-e];exact OE p i j o (by rw[<-f.out.1];omega) (by rw[<-f.out.1];exact HO.out)
            ·intro h;refine Ap (by rw[F9,<-f.out.1,a0,F7]) (fun j hj=> ?_);rw[F9,<-f.out.1]at hj;rw[OE p i j o (by rw[<-f.out.1];omega) (by rw[<-f.out.1];exact HO.out)];exact h j (by omega)
           have hk:=m8.out;have I5:(if p.X i=p.C then 0 else 65535)=(if S=true then 0 else 65535:Nat):=by
            by_cases hS:S=true
            ·rw[aG hS,aG (m9.2 hS)]
            ·rw[ax hS,ax (fun e=>hS (m9.1 e))]
           rw[I5,ax (by omega),ax (by omega),ax (by omega)]at c;split at c
           ·injection c with h1 c
            injection c with h2 c
            injection c with h3 h4
            exact h4.symm
           ·injection c with h1 c
            injection c with h2 c
            injection c with h3 h4
            exact h4.symm:_=_)
          cases S with
          |true=>
           have C0:au (q3=0):=(by rw[F8.out,aG rfl]:_=_);go_wp2_with fail
           go_meet
           case rel=>exact⟨by rw[C0.out];rfl,l4,L⟩
          |false=>
           have C0:au (ck=q3):=(by rw[F8.out,ax (by decide),m3.out.1 m8.out]:_=_);go_wp2_with fail
           go_meet
           case rel=>exact⟨by rw[C0.out],l4,L⟩
         have k7:(k:Int)<(n:Int):=by omega
         have L4:(k:Int)<(cn:Int):=by omega
         obtain⟨z2,z3,z5,z6⟩:=HZ.out wr L.out;cases S with
         |false=>
          have m4:au (false=true↔∀j,j<k+1->p.C.getD j 0=p.S.getD (o+j) 0):=(⟨fun h=>Bool.noConfusion h,fun h=>B9.out.2 (fun j hj=>h j (by omega))⟩:_↔_);go_wp2_with fail
          go_quiet (fail)
          have B:au (Fr (fun k=>k=cb) l (wr.drewN nq)):=(L.out.drewN nq:Fr _ _ _);have O:au ((wr.drewN nq).heap[cb]?=some (.cells #[.int .u16 (Y:Int),.int .u16 (s:Int),.int .u16 (w:Int)] 56 (0,0))):=(l4.out:_=_);go_wp2_with fail
          go_roundw
          case rel=>exact⟨k+1,false,rfl,by go_num,by omega,m4,O,B⟩
          case measure=>simp[bH];omega
         |true=>
          obtain⟨ac,rfl,A8⟩:=D6.out wr (HJ.out wr L.out) k (by omega);have I6:=b2.out wr (HJ.out wr L.out) (o+k) (by omega);obtain⟨cC,C1⟩:∃x,x=p.C.getD k 0:=⟨_,rfl⟩;obtain⟨cS,C2⟩:∃x,x=p.S.getD (o+k) 0:=⟨_,rfl⟩;rw[<-C1]at A8;rw[<-C2]at I6;have m4:au (∀E:Bool,E=decide (cC=cS)->(E=true↔∀j,j<k+1->p.C.getD j 0=p.S.getD (o+j) 0)):=(fun E hE=>by
           rw[hE,lX,C1,C2];constructor
           ·intro h j hj;rcases(by omega:j<k\/j=k)with h2|rfl
            ·exact B9.out.1 rfl j h2
            ·exact h
           ·intro h;exact h k (by omega):∀E,_)
          clear C1 C2;by_cases heq:cC=cS
          ·subst heq;go_wp2_with fail
           go_quiet (fail)
           have B:au (Fr (fun k=>k=cb) l (wr.drewN nq)):=(L.out.drewN nq:Fr _ _ _);have O:au ((wr.drewN nq).heap[cb]?=some (.cells #[.int .u16 (Y:Int),.int .u16 (s:Int),.int .u16 (w:Int)] 56 (0,0))):=(l4.out:_=_);go_wp2_with fail
           go_roundw
           case rel=>exact⟨k+1,true,by go_num,by go_num,by omega,(m4.out true (by simp):_↔_),O,B⟩
           case measure=>simp[bH];omega
          ·have L5:((cC:Int)==(cS:Int))=false:=by rw[aI];omega
           go_wp2_with fail
           go_quiet (fail)
           have B:au (Fr (fun k=>k=cb) l (wr.drewN nq)):=(L.out.drewN nq:Fr _ _ _);have O:au ((wr.drewN nq).heap[cb]?=some (.cells #[.int .u16 (Y:Int),.int .u16 (s:Int),.int .u16 (w:Int)] 56 (0,0))):=(l4.out:_=_);go_wp2_with fail
           go_roundw
           case rel=>exact⟨k+1,false,by go_num,by go_num,by omega,(m4.out false (by simp[heq]):_↔_),O,B⟩
           case measure=>simp[bH];omega
      case rest=>
       obtain⟨rfl,O,B⟩:=hcut;clear Q F m3 b6 z2 z3 z5 z6;have C3:au (wc.heap[J]?=some (Wu p.W p.H (.slice pa m pc))):=((B.out.block J (ak l7.out) (fun e=>by have:=k6.out.2;have:=a4.out.1;omega)).trans l7.out:_=_);have C4:au (wc.ownsRow w0.heap.size 55 1 (.slice pa m pc) m (dm (pU p.q i))):=(fE l8.out (fun k hk=>B.out.block k (l8.out.lt k hk).2 (fun e=>k6.out.1 (e▸hk))):World.ownsRow _ _ _ _ _ _ _);have C5:au (Fr (fun k=>k=J) w0 wc):=(HJ.out wc B.out:Fr _ _ _);have y0:wc.cell? ⟨cb,0,none⟩=some (.int .u16 (Y:Int)):=by simpa using(cell_of O.out 0).1
       have y1:wc.cell? ⟨cb,1,none⟩=some (.int .u16 (s:Int)):=by simpa using(cell_of O.out 1).1
       have y2:wc.cell? ⟨cb,2,none⟩=some (.int .u16 (w:Int)):=by simpa using(cell_of O.out 2).1
       have zp:wc.cell? ⟨J,2,none⟩=some (.slice pa m pc):=by simpa using(cell_of C3.out 2).1
       have I7:au (dm (pU p.q (i+1))=dm (pU p.q i)++[.int .u16 (Y:Int),.int .u16 (s:Int),.int .u16 (w:Int),.int .u16 (q3:Int)]):=(by rw[aak,HQ.out]:_=_);have L6:w0.heap.size<=wc.heap.size:=C5.out.size;have L7:m<=1600:=by have:=z8.out;omega
       obtain⟨i0,I8,I9,J0,J1⟩:=info_parts JX
       go_wp2_with (first
        |(at_builtin;refine wpList_append_lies _ rfl _ _ _ rfl w0.heap.size 55 i0 _ 1 2 underlying33 I8 I9 J0 J1 rfl (by omega) (.slice pa m pc) m (dm (pU p.q i)) rfl (C4.out.alloc _) ⟨wc.heap.size,0,none⟩ 4 4 [.int .u16 (Y:Int),.int .u16 (s:Int),.int .u16 (w:Int),.int .u16 (q3:Int)] rfl rfl (zO (cs:= #[.int .u16 (Y:Int),.int .u16 (s:Int),.int .u16 (w:Int),.int .u16 (q3:Int)]) (t:=55) (fr:=(0,0)) (by exact aP wc _)) (by intro u hu;simp at hu;rcases hu with rfl|rfl|rfl|rfl<;>rfl) (by omega) (by unfold maxLen;omega) (by omega) (by simp;omega) _ rfl ?_;intro ng n0 w9 b0 C6 J2 K5;have kB:=(OD (j:=2) C3.out C4.out C5.out a4.out.1 b0 C6).1;have x2:w9.cell? ⟨J,2,none⟩=some (.slice pa m pc):=(by simpa using(cell_of kB 2).1);have g2:w9.frozen? ⟨J,2,none⟩=false:=(by simpa using(cell_of kB 2).2)))
       obtain⟨k1,k2,k3⟩:=(OD (j:=2) C3.out C4.out C5.out a4.out.1 b0 C6).2 (.slice (some ⟨ng,0,none⟩) (m+4) n0);have J3:au _:=k1;have J4:au _:=k2;have G0:au _:=k3;clear k1 k2 k3 b0 C6 J2 kB;go_wp2_with fail
       go_roundw
       case rel=>exact⟨i+1,m+4,n0,some ⟨ng,0,none⟩,by go_num,by omega,(by have:=z8.out;omega:_=_),J3,(by rw[I7.out];exact J4.out:World.ownsRow _ _ _ _ _ _ _),G0⟩
       case measure=>simp[bH];omega
theorem ab_{w:af}{base:Nat}{la:Option bG}{n cap:Nat}{L:List Nat}(h:w.ownsRow base 55 1 (.slice la n cap) n (dm L)):uw w (.slice la n cap) L:=by
 have a:L.length=n:=by have:=h.1;simp[dm]at this;omega
 subst a;rcases h.2 with⟨e,h0⟩|⟨g,c,cur,e,_⟩
 ·exact⟨la,cap,rfl,fun i hi=>by omega⟩
 ·injection e with b d e3
  subst b;refine⟨some ⟨g,0,none⟩,cap,rfl,fun i hi=>⟨g,rfl,?_⟩⟩;rw[h.cellAt i (by omega)];simp[dm,List.getD_eq_getElem?_getD,List.getElem?_eq_getElem hi]
end Kp
end Go.Proofs.YtephkcdbnogdhabGreatDoor
