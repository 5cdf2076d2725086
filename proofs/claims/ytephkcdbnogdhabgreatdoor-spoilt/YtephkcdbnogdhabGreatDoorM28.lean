import Derived.Test.YtephkcdbnogdhabGreatDoorM27
set_option linter.unusedVariables false
set_option maxHeartbeats 40000000
set_option maxRecDepth 10000
namespace Go.Proofs.YtephkcdbnogdhabGreatDoor
open Go.Proofs.Tryz
open Go renaming World->af,Value->ay,Calls->aH,Addr->bG
open Go.RowKit renaming Hid->au,Below->aA,intOf->bH
namespace Kp
open Go.RowKit Rf Cr
open Pr
open gI (mY iU)
set_option maxRecDepth 100000 in
theorem Z_(W H K D:Nat)(I:Bool)(b1 pb ne:Nat)(E:List Int)(a1:Option bG)(q1:Nat)(w0:af){c0 c2 c3 c4 c6 c9 f3 f4 f5 f6 f7 f8 f9 c17 g0 g1 g2 g3 g4 g6 g9 h3 h5 h6 h7 h8 h9 i1 i2 i3 i4 i5 i6 i7 i9 j0 j1 j2 j3 j4 j5 j6 j7 j8 j9 k0 k4 k5 k6 k7 k8 k9 l0 l1 l2 l3 l4 l5 l6 l7 l8 l9 m0 m1 m2 m3 m4 m5 m6 m7 m8 m9 n0 n1 n2 n3 n4 n5 n6 n7 n8 h l m n o p q r s v w y A B C F G J L M N O P Q R S T U V X Y Z a0 a2 a3 a4 a5 a6 a7 a8 a9 b0 b2 b3 b4 b5 b6 b7 b8 b9 c1 c5 c7 c8 d0 d1 d2 d3 d4 u8 d6 d7 d8 d9 e0 e1 e2 e4 e5 e6 e7 e8 e9 f0 f1:ay}{Q0:Exit->Act->af->Prop}
 (hE:gq w0 pb (.slice a1 E.length q1) E) (h4:w0.cell? ⟨b1,4,none⟩=some (.slice a1 E.length q1)) (o0:b1<pb) (g:w0.heap[pb]?=some (w_ W H K D I (.slice none 0 0) (.slice none 0 0) (.slice none 0 0))) (p3:ne<=256) (p5:E.length<=140737488351232) (o1:u8= .int .i64 0)
 (b:∀(ec:Nat) (ea:Option bG) (u8 d6 d7 d8 d9 e0 e1 e2 e4 e5 e6 e7 e8 e9 f0 f1:ay) (wx:af),wx.heap[pb]?=some (w_ W H K D I (.slice ea ne ec) (.slice none 0 0) (.slice none 0 0))->wx.ownsRow (pb+1) 3 1 (.slice ea ne ec) ne (kR (jk (oP E) 16777216 ne))->Fr (fun k=>k=pb) w0 wx->Q0 (.exit 0) ⟨#[c0,.pointer (some ⟨b1,0,none⟩),c2,c3,c4,.pointer (some ⟨pb,0,none⟩),c6,.int .i64 (ne:Int),u8,c9,f3,f4,f5,f6,f7,f8,f9,c17,g0,g1,g2,g3,g4,g6,g9,h3,h5,h6,h7,h8,h9,i1,i2,i3,i4,i5,i6,i7,i9,j0,j1,j2,j3,j4,j5,j6,j7,j8,j9,k0,k4,k5,k6,k7,k8,k9,l0,l1,l2,l3,l4,l5,l6,l7,l8,d6,d7,d8,d9,e0,e1,e2,e4,e5,e6,e7,e8,e9,f0,f1,l9,m0,m1,m2,m3,m4,m5,m6,m7,m8,m9,n0,n1,n2,n3,n4,n5,n6,n7,n8,h,l,m,n,o,p,q,r,s,v,w,y,A,B,C,F,G,J,L,M,N,O,P,Q,R,S,T,U,V,X,Y,Z,a0,a2,a3,a4,a5,a6,a7,a8,a9,b0,b2,b3,b4,b5,b6,b7,b8,b9,c1,c5,c7,c8,d0,d1,d2,d3,d4],[]⟩ wx):
 Code.wp prog (wkL 0) (mY Q0) ⟨#[c0,.pointer (some ⟨b1,0,none⟩),c2,c3,c4,.pointer (some ⟨pb,0,none⟩),c6,.int .i64 (ne:Int),u8,c9,f3,f4,f5,f6,f7,f8,f9,c17,g0,g1,g2,g3,g4,g6,g9,h3,h5,h6,h7,h8,h9,i1,i2,i3,i4,i5,i6,i7,i9,j0,j1,j2,j3,j4,j5,j6,j7,j8,j9,k0,k4,k5,k6,k7,k8,k9,l0,l1,l2,l3,l4,l5,l6,l7,l8,d6,d7,d8,d9,e0,e1,e2,e4,e5,e6,e7,e8,e9,f0,f1,l9,m0,m1,m2,m3,m4,m5,m6,m7,m8,m9,n0,n1,n2,n3,n4,n5,n6,n7,n8,h,l,m,n,o,p,q,r,s,v,w,y,A,B,C,F,G,J,L,M,N,O,P,Q,R,S,T,U,V,X,Y,Z,a0,a2,a3,a4,a5,a6,a7,a8,a9,b0,b2,b3,b4,b5,b6,b7,b8,b9,c1,c5,c7,c8,d0,d1,d2,d3,d4],[]⟩ w0:=by
 have HE:au _:=hE;have o2:au _:=b;have o3:au _:=g;have c:au (pb<w0.heap.size/\b1<w0.heap.size):=(⟨ak g,rH o0 (ak g)⟩:_/\_);have H4:au _:=h4;clear hE b g h4;subst o1;conv=>arg 2;whnf
 dsimp only;go_loopw [8] (fun iv wr=> ∃(i ec:Nat) (ea:Option bG),iv= .int .i64 (i:Int)/\i<=ne/\au (wr.heap[pb]?=some (w_ W H K D I (.slice ea i ec) (.slice none 0 0) (.slice none 0 0)))/\au (wr.ownsRow w0.heap.size 3 1 (.slice ea i ec) i (kR (jk (oP E) 16777216 i)))/\au (Fr (fun k=>k=pb) w0 wr)) (fun iv _=>ne-(bH iv).toNat)
 case atStart=>exact⟨0,0,none,rfl,aX _,o3,(eX _ _ _ _:World.ownsRow _ _ _ _ _ _ _),(Fr.refl _ _:Fr _ _ _)⟩
 case round=>
  obtain⟨i,ec,ea,rfl,hi,d,HOr,a⟩:=hrel;by_cases p6:i<ne;rotate_left
  ·have o4:¬((i:Int)<(ne:Int)):=by omega
   have o5:au (i=ne):=(by omega:_=_);go_wp2_with fail
   have e:=o5.out;subst e;exact o2.out ec ea _ _ _ _ _ _ _ _ _ _ _ _ _ _ _ _ _ d.out (yA HOr.out c.out.1) a.out
  ·have o4:(i:Int)<(ne:Int):=by omega
   have z5:wr.cell? ⟨pb,5,none⟩=some (.slice ea i ec):=by simpa using(cell_of d.out 5).1
   have p4:wr.cell? ⟨b1,4,none⟩=some (.slice a1 E.length q1):=(aQ (a.out.block b1 c.out.2 (by omega))).trans H4.out;have f2:gq wr pb (.slice a1 E.length q1) E:=gq.over HE.out (fun k hk=>a.out.block k (rH hk c.out.1) (by omega));obtain⟨x,hx⟩:∃x,x=oP E i:=⟨_,rfl⟩;obtain⟨z,hz⟩:∃z,z=(pk (oP E i) 16777216).toNat:=⟨_,rfl⟩;have o6:au (aH prog 11 #[.slice a1 E.length q1,.int .i64 (i:Int)] wr.drew fun e w'=>e= .returned (.int .i64 x)/\w'=wr.drew):=(by rw[hx];exact yZ _ E i pb wr.drew f2 (by omega):aH _ _ _ _ _);have o7:au (aH prog 10 #[.int .i64 x,.int .i64 16777216] wr.drew fun e w'=>e= .returned (.int .i64 (z:Int))/\w'=wr.drew):=(by rw[hz,hx];exact qL (oP E i) 16777216 (Gv f2 i) (by omega) (by omega) wr.drew:aH _ _ _ _ _);have HZ:au (kR (jk (oP E) 16777216 (i+1))=kR (jk (oP E) 16777216 i)++[.int .i64 (z:Int)]):=(by rw[Ar,zg,hz]:_=_);have p7:w0.heap.size<=wr.heap.size:=a.out.size;have p8:(wr.alloc (.cells #[.int .i64 (z:Int)] 3)).cell? ⟨pb,5,none⟩=some (.slice ea i ec):=(aQ (ai wr _ pb (ak d.out))).trans z5;obtain⟨i0,o8,o9,p0,p1⟩:=info_parts lI.AB;clear hx hz f2;go_upto_region 16 with fail
   go_region_law (first
    |(go_simp;go_at_call 11;(with_reducible refine aU o6.out ?_);rintro e w5 ⟨rfl,rfl⟩;dsimp only)
    |(go_simp;go_at_call 10;(with_reducible refine aU o7.out ?_);rintro e w5 ⟨rfl,rfl⟩;dsimp only)
    |((refine step_append_lies _ (by rfl) _ _ _ (by rfl) w0.heap.size 3 i0 _ 1 8 underlying22 o8 o9 p0 p1 rfl (by omega) (.slice ea i ec) i (kR (jk (oP E) 16777216 i)) (by rfl) (by exact(show wr.drew.ownsRow _ _ _ _ _ _ from HOr.out).alloc _) ⟨wr.heap.size,0,none⟩ 1 1 [.int .i64 (z:Int)] (by rfl) rfl (zO (cs:= #[.int .i64 (z:Int)]) (t:=3) (fr:=(0,0)) (by exact aP wr.drew _)) (by intro u hu;simp at hu;subst hu;rfl) (by omega) (by unfold maxLen;omega) (by omega) (by simp;omega) _ rfl ?_;intro ng d5 w4 f n9 p9 p2;have kB:=(qW (j:=5) (wr:=wr.drew) d.out HOr.out a.out.drew c.out.1 f n9).1;have y5:w4.cell? ⟨pb,5,none⟩=some (.slice ea i ec):=(by simpa using(cell_of kB 5).1);have g5:w4.frozen? ⟨pb,5,none⟩=false:=(by simpa using(cell_of kB 5).2))))
   all_goals
    go_wp2_with fail
    go_roundw
    case rel=>obtain⟨k1,k2,k3⟩:=(qW (j:=5) (wr:=wr.drew) d.out HOr.out a.out.drew c.out.1 f n9).2 (.slice (some ⟨ng,0,none⟩) (i+1) d5);exact⟨i+1,d5,some ⟨ng,0,none⟩,by go_num,by omega,k1,(by rw[HZ.out];exact k2:World.ownsRow _ _ _ _ _ _ _),k3⟩
    case measure=>simp[bH];omega
theorem ab6(x:Int)(h: -9223372036854775808<=x/\x<=9223372036854775807): -9223372036854775808<=x.tdiv 3/\x.tdiv 3<=9223372036854775807:=by
 rcases Int.le_total 0 x with h0|h0
 ·rw[ve h0];omega
 ·have e:x= -(-x):=by omega
  rw[e,Int.neg_tdiv,ve (by omega)];omega
set_option maxRecDepth 100000 in
theorem aab(W H K D N ms:Nat)(R:Int)(I:Bool)(c pb:Nat)(E:List Int)(a1:Option bG)(q1:Nat)(ea:Option bG)(en ec:Nat)(sa:Option bG)(sn sc:Nat)(w0:af){c0 c2 c3 c4 c7 c8 c9 e9 f0 f1 f2 f3 f4 c17 f5 f6 f7 f8 f9 g0 g1 g2 g3 g4 g5 g9 h3 h5 h6 h7 h8 i1 i2 i3 i4 i5 i6 i7 i9 j0 j1 j2 j3 j4 j5 j6 j7 j8 j9 k0 k4 k5 k6 k7 k8 k9 l0 l1 l2 l3 l4 l5 l6 l7 l8 l9 m0 m1 m2 m3 m4 m5 m6 m7 m8 m9 n0 n1 n2 n3 n4 n5 n6 n7 n8 n9 o0 o1 o2 o3 o4 o5 o6 o7 o8 o9 U V X Y Z a0 a2 a3 a4 a5 a6 a7 a8 a9 b0 b2 b3 b4 b5 b6 b7 b8 b9 c1 c5 c6 d0 d1 d2 d3 d4 d5 d6 d7 d8 d9 e0 e1 e2 S d f g h l m n o p q r s v w A B C F G J:ay}{Q0:Exit->Act->af->Prop}
 (hE:gq w0 pb (.slice a1 E.length q1) E) (h4:w0.cell? ⟨c,4,none⟩=some (.slice a1 E.length q1)) (h9:w0.cell? ⟨c,9,none⟩=some (.int .i64 R)) (p3:c<pb) (T:w0.heap[pb]?=some (w_ W H K D I (.slice ea en ec) (.slice none 0 0) (.slice sa sn sc))) (r0:E.length<=140737488351232)
 (p5: -9223372036854775808<=R/\R<=9223372036854775807) (r1:1<=ms/\ms<=65536) (hN:N=1+(pk R ms).toNat) (r2:N<=65536) (p0:S= .int .i64 0)
 (L:∀(M:Nat) (O:Option bG) (S d f g h l m n o p q r s v w A B C F G J:ay) (wx:af),wx.heap[pb]?=some (w_ W H K D I (.slice ea en ec) (.slice O N M) (.slice sa sn sc))->wx.ownsRow (pb+1) 3 1 (.slice O N M) N (kR (jk (fun i=>(oP E i).tdiv 3) 256 N))->Fr (fun k=>k=pb) w0 wx->Q0 (.exit 4) ⟨#[c0,.pointer (some ⟨c,0,none⟩),c2,c3,c4,.pointer (some ⟨pb,0,none⟩),.int .i64 (ms:Int),c7,c8,c9,S,e9,f0,f1,f2,f3,f4,c17,f5,f6,f7,f8,f9,g0,g1,g2,g3,g4,g5,g9,h3,h5,h6,h7,h8,i1,i2,i3,i4,i5,i6,i7,i9,j0,j1,j2,j3,j4,j5,j6,j7,j8,j9,k0,k4,k5,k6,k7,k8,k9,l0,l1,l2,l3,l4,l5,l6,l7,l8,l9,m0,m1,m2,m3,m4,m5,m6,m7,m8,m9,n0,n1,n2,n3,n4,n5,n6,n7,n8,n9,o0,o1,o2,o3,o4,o5,o6,o7,o8,o9,U,V,X,Y,Z,a0,a2,a3,a4,a5,a6,a7,a8,a9,b0,b2,b3,b4,b5,b6,b7,d,f,g,h,l,m,n,o,p,q,r,s,v,w,A,B,C,F,G,J,b8,b9,c1,c5,c6,d0,d1,d2,d3,d4,d5,d6,d7,d8,d9,e0,e1,e2],[]⟩ wx):
 Code.wp prog (wkL 2) (mY Q0) ⟨#[c0,.pointer (some ⟨c,0,none⟩),c2,c3,c4,.pointer (some ⟨pb,0,none⟩),.int .i64 (ms:Int),c7,c8,c9,S,e9,f0,f1,f2,f3,f4,c17,f5,f6,f7,f8,f9,g0,g1,g2,g3,g4,g5,g9,h3,h5,h6,h7,h8,i1,i2,i3,i4,i5,i6,i7,i9,j0,j1,j2,j3,j4,j5,j6,j7,j8,j9,k0,k4,k5,k6,k7,k8,k9,l0,l1,l2,l3,l4,l5,l6,l7,l8,l9,m0,m1,m2,m3,m4,m5,m6,m7,m8,m9,n0,n1,n2,n3,n4,n5,n6,n7,n8,n9,o0,o1,o2,o3,o4,o5,o6,o7,o8,o9,U,V,X,Y,Z,a0,a2,a3,a4,a5,a6,a7,a8,a9,b0,b2,b3,b4,b5,b6,b7,d,f,g,h,l,m,n,o,p,q,r,s,v,w,A,B,C,F,G,J,b8,b9,c1,c5,c6,d0,d1,d2,d3,d4,d5,d6,d7,d8,d9,e0,e1,e2],[]⟩ w0:=by
 obtain⟨kz,e6⟩:∃kz,kz=(pk R ms).toNat:=⟨_,rfl⟩;rw[<-e6]at hN;have p6:au (∀wx:af,aH prog 10 #[.int .i64 R,.int .i64 (ms:Int)] wx fun e w'=>e= .returned (.int .i64 (kz:Int))/\w'=wx):=(fun wx=>by rw[e6];exact qL R ms p5 (by omega) (by omega) wx:∀wx,_);have r3:(1:Int)+(kz:Int)=(N:Int):=by omega
 have HE:au _:=hE;have p7:au _:=L;have p8:au _:=T;have b:au (pb<w0.heap.size/\c<w0.heap.size):=(⟨ak T,rH p3 (ak T)⟩:_/\_);have H4:au (w0.cell? ⟨c,4,none⟩=some (.slice a1 E.length q1)/\w0.cell? ⟨c,9,none⟩=some (.int .i64 R)):=(⟨h4,h9⟩:_/\_);clear hE L T h4 h9 hN e6;subst p0;conv=>arg 2;whnf
 dsimp only;go_loopw [10] (fun iv wr=> ∃(i M:Nat) (O:Option bG),iv= .int .i64 (i:Int)/\i<=N/\au (wr.heap[pb]?=some (w_ W H K D I (.slice ea en ec) (.slice O i M) (.slice sa sn sc)))/\au (wr.ownsRow w0.heap.size 3 1 (.slice O i M) i (kR (jk (fun i=>(oP E i).tdiv 3) 256 i)))/\au (Fr (fun k=>k=pb) w0 wr)) (fun iv _=>N-(bH iv).toNat)
 case atStart=>exact⟨0,0,none,rfl,aX _,p8,(eX _ _ _ _:World.ownsRow _ _ _ _ _ _ _),(Fr.refl _ _:Fr _ _ _)⟩
 case round=>
  obtain⟨i,M,O,rfl,hi,P,HOr,a⟩:=hrel;have p4:wr.cell? ⟨c,4,none⟩=some (.slice a1 E.length q1):=(aQ (a.out.block c b.out.2 (by omega))).trans H4.out.1;have p9:wr.cell? ⟨c,9,none⟩=some (.int .i64 R):=(aQ (a.out.block c b.out.2 (by omega))).trans H4.out.2;go_wp2_with fail
  refine aU (p6.out _) ?_;rintro e w2 ⟨rfl,e7⟩;have e7:=e7.symm;subst e7;by_cases r4:i<N;rotate_left
  ·have q0:¬((i:Int)<(N:Int)):=by omega
   have q2:au (i=N):=(by omega:_=_);go_wp2_with fail
   have e:=q2.out;subst e;exact p7.out M O _ _ _ _ _ _ _ _ _ _ _ _ _ _ _ _ _ _ _ _ _ _ P.out (yA HOr.out b.out.1) a.out
  ·have q0:(i:Int)<(N:Int):=by omega
   have z6:wr.cell? ⟨pb,6,none⟩=some (.slice O i M):=by simpa using(cell_of P.out 6).1
   have e8:gq wr pb (.slice a1 E.length q1) E:=gq.over HE.out (fun k hk=>a.out.block k (rH hk b.out.1) (by omega));obtain⟨x,hx⟩:∃x,x=oP E i:=⟨_,rfl⟩;obtain⟨y,hy⟩:∃y,y=(oP E i).tdiv 3:=⟨_,rfl⟩;obtain⟨z,hz⟩:∃z,z=(pk ((oP E i).tdiv 3) 256).toNat:=⟨_,rfl⟩;have p1:=Gv e8 i;have e4:=ab6 _ p1;have q3:au (aH prog 11 #[.slice a1 E.length q1,.int .i64 (i:Int)] wr.drew fun e w'=>e= .returned (.int .i64 x)/\w'=wr.drew):=(by rw[hx];exact yZ _ E i pb wr.drew e8 (by omega):aH _ _ _ _ _);have q4:au (aH prog 10 #[.int .i64 y,.int .i64 256] wr.drew fun e w'=>e= .returned (.int .i64 (z:Int))/\w'=wr.drew):=(by rw[hz,hy];exact qL _ 256 e4 (by omega) (by omega) wr.drew:aH _ _ _ _ _);have HZ:au (kR (jk (fun i=>(oP E i).tdiv 3) 256 (i+1))=kR (jk (fun i=>(oP E i).tdiv 3) 256 i)++[.int .i64 (z:Int)]):=(by rw[Ar,zg,hz]:_=_);have hq:IntKind.i64.wrap (x.tdiv 3)=y:=by rw[hx,hy,eY];omega
   have r5:w0.heap.size<=wr.heap.size:=a.out.size;have r6:(wr.alloc (.cells #[.int .i64 (z:Int)] 3)).cell? ⟨pb,6,none⟩=some (.slice O i M):=(aQ (ai wr _ pb (ak P.out))).trans z6;obtain⟨i0,q5,q6,q7,q8⟩:=info_parts lI.AB;clear hx hy hz e8 p1 e4 p9;go_upto_region 28 with fail
   go_region_law (first
    |(go_simp;go_at_call 11;(with_reducible refine aU q3.out ?_);rintro e w5 ⟨rfl,rfl⟩;dsimp only)
    |(go_simp;go_at_call 10;(with_reducible refine aU q4.out ?_);rintro e w5 ⟨rfl,rfl⟩;dsimp only)
    |((refine step_append_lies _ (by rfl) _ _ _ (by rfl) w0.heap.size 3 i0 _ 1 8 underlying22 q5 q6 q7 q8 rfl (by omega) (.slice O i M) i (kR (jk (fun i=>(oP E i).tdiv 3) 256 i)) (by rfl) (by exact(show wr.drew.ownsRow _ _ _ _ _ _ from HOr.out).alloc _) ⟨wr.heap.size,0,none⟩ 1 1 [.int .i64 (z:Int)] (by rfl) rfl (zO (cs:= #[.int .i64 (z:Int)]) (t:=3) (fr:=(0,0)) (by exact aP wr.drew _)) (by intro u hu;simp at hu;subst hu;rfl) (by omega) (by unfold maxLen;omega) (by omega) (by simp;omega) _ rfl ?_;intro ng e5 w4 Q p2 r7 q9;have kB:=(qW (j:=6) (wr:=wr.drew) P.out HOr.out a.out.drew b.out.1 Q p2).1;have y6:w4.cell? ⟨pb,6,none⟩=some (.slice O i M):=(by simpa using(cell_of kB 6).1);have g6:w4.frozen? ⟨pb,6,none⟩=false:=(by simpa using(cell_of kB 6).2))))
   all_goals
    go_wp2_with fail
    go_roundw
    case rel=>obtain⟨k1,k2,k3⟩:=(qW (j:=6) (wr:=wr.drew) P.out HOr.out a.out.drew b.out.1 Q p2).2 (.slice (some ⟨ng,0,none⟩) (i+1) e5);exact⟨i+1,e5,some ⟨ng,0,none⟩,by go_num,by omega,k1,(by rw[HZ.out];exact k2:World.ownsRow _ _ _ _ _ _ _),k3⟩
    case measure=>simp[bH];omega
theorem ab7{w:af}{base g n cap:Nat}{L:List Nat}(h:w.ownsRow base 3 1 (.slice (some ⟨g,0,none⟩) n cap) n (kR L))(j:Nat)(a:j<n):w.cell? ⟨g,j,none⟩=some (.int .i64 ((L.getD j 0:Nat):Int)):=by
 have b:L.length=n:=by have:=h.1;simp[kR]at this;omega
 rw[h.cellAt j (by omega)];unfold kR;rw[fH,ag,aB (by omega)];rfl
theorem Wl(X:List Nat)(i:Nat)(h:i<X.length):kR (X.take (i+1))=kR (X.take i)++[.int .i64 ((X.getD i 0:Nat):Int)]:=by rw[dN h,zg,ag,aB h];rfl
set_option maxRecDepth 100000 in
theorem aac(W H K D n:Nat)(I:Bool)(pb:Nat)(X:List Nat)(ea:Option bG)(en ec:Nat)(sa:Option bG)(d L:Nat)(w0:af){c0 c1 c2 c3 c4 c6 c7 c8 c9 e9 f0 f1 f2 f3 f4 c17 f5 f6 f7 f8 f9 g0 g1 g2 g3 g4 g5 g9 h3 h4 h5 h6 h7 h8 h9 i1 i2 i3 i4 i5 i6 i7 i9 j0 j1 j2 j3 j4 j5 j6 j7 j8 j9 k0 k4 k5 k6 k7 k8 k9 l0 l1 l2 l3 l4 l5 l6 l7 l8 l9 m0 m1 m2 m3 m4 m5 m6 m7 m8 m9 n0 n1 n2 n3 n4 n5 n6 n7 n8 n9 o0 o1 o2 o3 o4 o5 o6 o7 P Q R S T U V Y Z a0 a1 a2 a3 a4 a5 a6 a7 a8 a9 b0 b1 b2 b3 b4 b5 b6 b7 b8 b9 c5 d0 d1 d2 d3 d4 d5 d6 d7 d8 d9 e0 e4 e5 M h l m o p q r s v w x y A B C E:ay}{Q0:Exit->Act->af->Prop}
 (hX:w0.ownsRow (pb+1) 3 1 (.slice sa d L) d (kR X)) (e7:w0.heap[pb]?=some (w_ W H K D I (.slice ea en ec) (.slice none 0 0) (.slice sa d L)))
 (hK:K=0\/K=2\/K=3\/K=4\/K=6) (hn:n=aT K) (q3:1<=n/\n<=4) (q4:n<=d) (q1:d<=1600) (o8:M= .int .i64 0)
 (F:∀(b:Nat) (c:Option bG) (M h l m o p q r s v w x y A B C E:ay) (wx:af),wx.heap[pb]?=some (w_ W H K D I (.slice ea en ec) (.slice c n b) (.slice sa d L))->wx.ownsRow (pb+1) 3 1 (.slice c n b) n (kR (X.take n))->Fr (fun k=>k=pb) w0 wx->Q0 (.exit 6) ⟨#[c0,c1,c2,c3,c4,.pointer (some ⟨pb,0,none⟩),c6,c7,c8,c9,e9,M,f0,f1,f2,f3,f4,c17,f5,f6,f7,f8,f9,g0,g1,g2,g3,g4,g5,g9,h3,h4,h5,h6,h7,h8,h9,i1,i2,i3,i4,i5,i6,i7,i9,j0,j1,j2,j3,j4,j5,j6,j7,j8,j9,k0,k4,k5,k6,k7,k8,k9,l0,l1,l2,l3,l4,l5,l6,l7,l8,l9,m0,m1,m2,m3,m4,m5,m6,m7,m8,m9,n0,n1,n2,n3,n4,n5,n6,n7,n8,n9,o0,o1,o2,o3,o4,o5,o6,o7,P,Q,R,S,T,U,V,Y,Z,a0,a1,a2,a3,a4,a5,a6,a7,a8,a9,b0,b1,b2,b3,b4,b5,b6,b7,b8,b9,c5,d0,d1,d2,d3,d4,d5,d6,d7,d8,d9,e0,e4,h,l,m,o,p,q,r,s,v,w,x,y,A,B,C,E,e5],[]⟩ wx):
 Code.wp prog (wkL 3) (mY Q0) ⟨#[c0,c1,c2,c3,c4,.pointer (some ⟨pb,0,none⟩),c6,c7,c8,c9,e9,M,f0,f1,f2,f3,f4,c17,f5,f6,f7,f8,f9,g0,g1,g2,g3,g4,g5,g9,h3,h4,h5,h6,h7,h8,h9,i1,i2,i3,i4,i5,i6,i7,i9,j0,j1,j2,j3,j4,j5,j6,j7,j8,j9,k0,k4,k5,k6,k7,k8,k9,l0,l1,l2,l3,l4,l5,l6,l7,l8,l9,m0,m1,m2,m3,m4,m5,m6,m7,m8,m9,n0,n1,n2,n3,n4,n5,n6,n7,n8,n9,o0,o1,o2,o3,o4,o5,o6,o7,P,Q,R,S,T,U,V,Y,Z,a0,a1,a2,a3,a4,a5,a6,a7,a8,a9,b0,b1,b2,b3,b4,b5,b6,b7,b8,b9,c5,d0,d1,d2,d3,d4,d5,d6,d7,d8,d9,e0,e4,h,l,m,o,p,q,r,s,v,w,x,y,A,B,C,E,e5],[]⟩ w0:=by
 obtain⟨g,cp,hg⟩:=y_ hX (by omega);injection hg with e1 e2 e3
 subst e1;have hl:X.length=d:=by have:=hX.1;simp[kR]at this;omega
 have p1:au (∀(c:Option bG) (cn b:Nat) (wx:af),aH prog 12 #[.agg #[.int .i64 (W:Int),.int .i64 (H:Int),.int .i64 (K:Int),.int .i64 (D:Int),.bool I,.slice ea en ec,.slice c cn b,.slice (some ⟨g,0,none⟩) d L]] wx fun e w'=>e= .returned (.int .i64 (n:Int))/\w'=wx.alloc (oC W H K D I (.slice ea en ec) (.slice c cn b) (.slice (some ⟨g,0,none⟩) d L))):=(fun c cn b wx=>by rw[hn];exact pX W H K D I _ _ _ wx ⟨_,_,_,rfl⟩ ⟨_,_,_,rfl⟩ ⟨_,_,_,rfl⟩ hK:∀_,_)
 have HX:au (∀wx,Fr (fun k=>k=pb) w0 wx->∀j,j<d->wx.cell? ⟨g,j,none⟩=some (.int .i64 ((X.getD j 0:Nat):Int))):=(fun wx hF j hj=>(aQ (hF.block g (hX.lt g rfl).2 (fun e=>by have:=(hX.lt g rfl).1;omega))).trans (ab7 hX j hj):∀wx,_);have p2:au (∀i,i<d->kR (X.take (i+1))=kR (X.take i)++[.int .i64 ((X.getD i 0:Nat):Int)]):=(fun i hi=>Wl X i (by omega):∀i,_);have p3:au _:=F;have p4:au _:=e7;have e8:au (pb<w0.heap.size):=(ak e7:_<_);clear hX F e7 hn hK e2 e3 hl;subst o8;conv=>arg 2;whnf
 dsimp only;go_loopw [11] (fun iv wr=> ∃(i b:Nat) (c:Option bG),iv= .int .i64 (i:Int)/\i<=n/\au (wr.heap[pb]?=some (w_ W H K D I (.slice ea en ec) (.slice c i b) (.slice (some ⟨g,0,none⟩) d L)))/\au (wr.ownsRow w0.heap.size 3 1 (.slice c i b) i (kR (X.take i)))/\au (Fr (fun k=>k=pb) w0 wr)) (fun iv _=>n-(bH iv).toNat)
 case atStart=>exact⟨0,0,none,rfl,aX _,p4,(by rw[Az];exact eX _ _ _ _:World.ownsRow _ _ _ _ _ _ _),(Fr.refl _ _:Fr _ _ _)⟩
 case round=>
  obtain⟨i,b,c,rfl,hi,a,HOr,o9⟩:=hrel;have z0:wr.cell? ⟨pb,0,none⟩=some (.int .i64 (W:Int)):=by simpa using(cell_of a.out 0).1
  have z1:wr.cell? ⟨pb,1,none⟩=some (.int .i64 (H:Int)):=by simpa using(cell_of a.out 1).1
  have z2:wr.cell? ⟨pb,2,none⟩=some (.int .i64 (K:Int)):=by simpa using(cell_of a.out 2).1
  have z3:wr.cell? ⟨pb,3,none⟩=some (.int .i64 (D:Int)):=by simpa using(cell_of a.out 3).1
  have z4:wr.cell? ⟨pb,4,none⟩=some (.bool I):=by simpa using(cell_of a.out 4).1
  have z5:wr.cell? ⟨pb,5,none⟩=some (.slice ea en ec):=by simpa using(cell_of a.out 5).1
  have z6:wr.cell? ⟨pb,6,none⟩=some (.slice c i b):=by simpa using(cell_of a.out 6).1
  have z7:wr.cell? ⟨pb,7,none⟩=some (.slice (some ⟨g,0,none⟩) d L):=by simpa using(cell_of a.out 7).1
  go_wp2_with fail
  refine aU (p1.out c i b _) ?_;rintro e w1 ⟨rfl,N⟩;have f:au (w1.heap[pb]?=some (w_ W H K D I (.slice ea en ec) (.slice c i b) (.slice (some ⟨g,0,none⟩) d L))):=(by rw[N];exact(ai wr _ pb (ak a.out)).trans a.out:_=_);have O:au (w1.ownsRow w0.heap.size 3 1 (.slice c i b) i (kR (X.take i))):=(by rw[N];exact HOr.out.alloc _:World.ownsRow _ _ _ _ _ _ _);have G:au (Fr (fun k=>k=pb) w0 w1):=(by rw[N];exact o9.out.alloc _:Fr _ _ _);clear z0 z1 z2 z3 z4 z5 z6 z7 a HOr o9 N;by_cases q5:i<n;rotate_left
  ·have p5:¬((i:Int)<(n:Int)):=by omega
   have p6:au (i=n):=(by omega:_=_);go_wp2_with fail
   have e:=p6.out;subst e;exact p3.out b c _ _ _ _ _ _ _ _ _ _ _ _ _ _ _ _ _ _ f.out (yA O.out e8.out) G.out
  ·have p5:(i:Int)<(n:Int):=by omega
   have q6:(i:Int)<(d:Int):=by omega
   have z6:w1.cell? ⟨pb,6,none⟩=some (.slice c i b):=by simpa using(cell_of f.out 6).1
   have z7:w1.cell? ⟨pb,7,none⟩=some (.slice (some ⟨g,0,none⟩) d L):=by simpa using(cell_of f.out 7).1
   have zs:=HX.out w1 G.out i (by omega);have HZ:au _:=p2.out i (by omega);have q7:w0.heap.size<=w1.heap.size:=G.out.size;generalize X.getD i 0=z at*;have q8:(w1.alloc (.cells #[.int .i64 (z:Int)] 3)).cell? ⟨pb,6,none⟩=some (.slice c i b):=(aQ (ai w1 _ pb (ak f.out))).trans z6;obtain⟨i0,p7,p8,p9,q0⟩:=info_parts lI.AB;go_upto_region 33 with fail
   go_region_law (first
    |((refine step_append_lies _ (by rfl) _ _ _ (by rfl) w0.heap.size 3 i0 _ 1 8 underlying22 p7 p8 p9 q0 rfl (by omega) (.slice c i b) i (kR (X.take i)) (by rfl) (by exact(show w1.drew.ownsRow _ _ _ _ _ _ from O.out).alloc _) ⟨w1.heap.size,0,none⟩ 1 1 [.int .i64 (z:Int)] (by rfl) rfl (zO (cs:= #[.int .i64 (z:Int)]) (t:=3) (fr:=(0,0)) (by exact aP w1.drew _)) (by intro u hu;simp at hu;subst hu;rfl) (by omega) (by unfold maxLen;omega) (by omega) (by simp;omega) _ rfl ?_;intro ng e6 w4 J p0 q9 q2;have kB:=(qW (j:=6) (wr:=w1.drew) f.out O.out G.out.drew e8.out J p0).1;have y6:w4.cell? ⟨pb,6,none⟩=some (.slice c i b):=(by simpa using(cell_of kB 6).1);have g6:w4.frozen? ⟨pb,6,none⟩=false:=(by simpa using(cell_of kB 6).2))))
   all_goals
    go_wp2_with fail
    go_roundw
    case rel=>obtain⟨k1,k2,k3⟩:=(qW (j:=6) (wr:=w1.drew) f.out O.out G.out.drew e8.out J p0).2 (.slice (some ⟨ng,0,none⟩) (i+1) e6);exact⟨i+1,e6,some ⟨ng,0,none⟩,by go_num,by omega,k1,(by rw[HZ.out];exact k2:World.ownsRow _ _ _ _ _ _ _),k3⟩
    case measure=>simp[bH];omega
end Kp
namespace Kp
open Go.RowKit Rf Cr
open Pr
def kF(L:List Nat):List ay:=L.map (fun n:Nat=>Value.int .u8 (n:Int))
theorem mZ(L:List Nat)(n:Nat):kF (L++[n])=kF L++[.int .u8 (n:Int)]:=by simp[kF]
theorem p_(L:List Nat):(kF L).length=L.length:=by simp[kF]
theorem adg:(prog.info? 5).map (fun i=>(i.zero,i.size,i.bytes))=some (some (.int .u8 0),1,1):=by kernel_rfl
theorem Ws{wr:af}{ops:Array Oper}{rest:List Oper}{o:Oper}{a:Act}{Q:Exit->Act->af->Prop}(d:o.guard=none)(s x:Operand)
 (i:o.op= .call {callee:= .builtin .append,args:= #[s,x],argTypes:= #[39,39]}) (base:Nat) (v:ay) (n:Nat) (xs:List ay) (z:Int)
 (b:wr.ownsRow base 5 1 v n xs) (k:a.eval s=v) (l:a.eval x= .slice (some ⟨wr.heap.size,0,none⟩) 1 1) (p:n<=1000000) (hb:base<=wr.heap.size)
 (h:∀v' w',w'.ownsRow base 5 1 v' (n+1) (xs++[.int .u8 z])->(wr.alloc (.cells #[.int .u8 z] 5)).grownBy w' v.ownBlock->wpList prog ops Q rest (a.put o.dst v') w'):
 wpList prog ops Q (o::rest) a (wr.alloc (.cells #[.int .u8 z] 5)):=by
 obtain⟨m,hi,e,f,g⟩:=info_parts adg;refine wpList_append_own _ d s x 39 i base 5 m (.int .u8 0) 1 1 underlying39 hi e f g rfl (by decide) v n xs k (b.alloc _) ⟨wr.heap.size,0,none⟩ 1 1 [.int .u8 z] l rfl ?_ ?_ ?_ ?_ ?_ ?_
 ·intro j u c;match j,c with
  |0,c=>simp at c;subst c;simp[Addr.add]
 ·intro u hu;simp at hu;subst hu;rfl
 ·unfold maxLen;omega
 ·omega
 ·simp;omega
 ·intro v' w' h1 h2 q;exact h v' w' h1 h2
theorem adh(a:bG)(len cap q:Nat)(h:q<len)(wx:af):(Instr.indexAt 22 (.slice (some a) len cap) (.int .i64 (q:Int))).run prog wx= .ok (.pointer (some (a.add q))) wx:=by
 have h1:(0:Int)<=(q:Int):=by omega
 have h2:(q:Int)<(len:Int):=by omega
 simp[go_sem,underlying22,h1,h2]
theorem u8_or(v t:Nat)(a:v<128)(b:t<=1):bits BinOp.or IntKind.u8 ((v:Int)*2) (t:Int)=((2*v+t:Nat):Int):=by
 have:∀v:Fin 128,∀t:Fin 2,bits BinOp.or IntKind.u8 (((v.val:Nat):Int)*2) ((t.val:Nat):Int)=((2*v.val+t.val:Nat):Int):=by decide+kernel
 exact this ⟨v,a⟩ ⟨t,by omega⟩
theorem RG(p:Wk)(hp:p.Ok)(ev cv sv:ay)(y o sx y0 sy:Nat)(w:af)(h1:uu ev)(h2:uu cv)(hS:ji w w.heap.size sv p.S)(hy:y<p.H)(hx:1<=sx)(l7:sx<=8)(l8:o<=8)(l9:y0<=8)(m0:sy<=8):
 aH prog 24 #[pW p.W p.H p.K p.D p.I ev cv sv,.int .i64 (y:Int),.agg #[.int .i64 (o:Int),.int .i64 (sx:Int),.int .i64 (y0:Int),.int .i64 (sy:Int)]] w fun e w'=> ∃v,e= .returned v/\w'.ownsRow w.heap.size 5 1 v (bJ (p.D*aT p.K) (gI.manyN o sx p.W)) (kF (Am p.D (p.yu (y*p.W+o) sx (gI.manyN o sx p.W)) (bJ (p.D*aT p.K) (gI.manyN o sx p.W))))/\aA w.heap.size w w':=by
 obtain⟨Y,n1,c1,rfl⟩:=h1;obtain⟨a2,n2,c2,rfl⟩:=h2;obtain⟨a3,c3,rfl,_,hc⟩:=hS.at';obtain⟨N,hN⟩:∃N,N=gI.manyN o sx p.W:=⟨_,rfl⟩;obtain⟨V,hV⟩:∃V,V=kF (Am p.D (p.yu (y*p.W+o) sx N) (bJ (p.D*aT p.K) N)):=⟨_,rfl⟩;obtain⟨LN,c7⟩:∃LN,LN=bJ (p.D*aT p.K) N:=⟨_,rfl⟩;rw[<-hN,<-hV,<-c7];obtain⟨n,hn⟩:∃n,n=aT p.K:=⟨_,rfl⟩;have e7:1<=n/\n<=4:=by rw[hn];rcases hp.kinds with e|e|e|e|e<;>rw[e]<;>decide
 have l0:N<=20:=by
  have:=hp.w2;rw[hN];unfold gI.manyN;split
  ·omega
  ·have:=Nat.div_le_self (p.W-o-1) sx;omega
 obtain⟨X,hX⟩:∃X,X=p.yu (y*p.W+o) sx N:=⟨_,rfl⟩;have c8:au (∀i,i<N↔o+i*sx<p.W):=(fun i=>by rw[hN];exact uK hx:∀i,_);have c9:au (∀i,i<N->y*p.W+o+i*sx<p.W*p.H):=(fun i hi=>by rw[dK];exact Gp ((c8.out i).1 hi) hy:∀i,_);have i1:au (∀i j,i<N->j<n->X.getD (i*n+j) 0=p.S.getD ((y*p.W+o+i*sx)*n+j) 0):=(fun i j hi hj=>by rw[hX,hn,hp.TF _ _ _ (fun i hi=>c9.out i hi) i j hi (by rw[<-hn];exact hj)];unfold Wk.X;rw[ag,dh (by rw[<-hn];exact hj),gJ,<-ag]:∀i j,_)
 have e8:au (p.S.length=p.W*p.H*n/\∀x∈p.S,x<2^p.D):=(⟨by rw[hn];exact hp.sl,hp.sx⟩:_/\_);have e9:1<=p.D/\p.D<=16:=by have:=hp.depth;unfold eG at this;omega
 have f0:=hp.pow;have f1:=hp.w2;have l1:=hp.h2;have HC:au _:=hc;have i2:au _:=hp;have i3:au (V=kF (Am p.D X (bJ (p.D*n) N))):=(by rw[hV,hX,hn]:_=_);have f2:au (LN=bJ (p.D*n) N):=(by rw[c7,hn]:_=_);have i4:au _:=hn;have i5:au (X.length=N*n):=(by rw[hX,hn];exact hp.Gu _ _ _ (fun i hi=>c9.out i hi):_=_);clear hc hV c7 hX hN hS hp hn;unfold pW;rename _<=140737488351232=>m4
 go_enter func24,ntmps24
 go_upto_region 3 with fail
 have HX:au (((w.alloc (.cells #[.int .i64 (p.W:Int),.int .i64 (p.H:Int),.int .i64 (p.K:Int),.int .i64 (p.D:Int),.bool p.I,.slice Y n1 c1,.slice a2 n2 c2,.slice a3 p.S.length c3] 26)).alloc (.cells #[.int .i64 (o:Int),.int .i64 (sx:Int),.int .i64 (y0:Int),.int .i64 (sy:Int)] 61)).heap[w.heap.size]?=some (.cells #[.int .i64 (p.W:Int),.int .i64 (p.H:Int),.int .i64 (p.K:Int),.int .i64 (p.D:Int),.bool p.I,.slice Y n1 c1,.slice a2 n2 c2,.slice a3 p.S.length c3] 26 (0,0))):=((xy _ _ (by simp)).trans (aP w _):_=_);have HY:au (((w.alloc (.cells #[.int .i64 (p.W:Int),.int .i64 (p.H:Int),.int .i64 (p.K:Int),.int .i64 (p.D:Int),.bool p.I,.slice Y n1 c1,.slice a2 n2 c2,.slice a3 p.S.length c3] 26)).alloc (.cells #[.int .i64 (o:Int),.int .i64 (sx:Int),.int .i64 (y0:Int),.int .i64 (sy:Int)] 61)).heap[w.heap.size+1]?=some (.cells #[.int .i64 (o:Int),.int .i64 (sx:Int),.int .i64 (y0:Int),.int .i64 (sy:Int)] 61 (0,0))):=(by have:=aP (w.alloc (.cells #[.int .i64 (p.W:Int),.int .i64 (p.H:Int),.int .i64 (p.K:Int),.int .i64 (p.D:Int),.bool p.I,.slice Y n1 c1,.slice a2 n2 c2,.slice a3 p.S.length c3] 26)) (.cells #[.int .i64 (o:Int),.int .i64 (sx:Int),.int .i64 (y0:Int),.int .i64 (sy:Int)] 61);rw[sG]at this;exact this:_=_)
 have a0:au (aA w.heap.size w ((w.alloc (.cells #[.int .i64 (p.W:Int),.int .i64 (p.H:Int),.int .i64 (p.K:Int),.int .i64 (p.D:Int),.bool p.I,.slice Y n1 c1,.slice a2 n2 c2,.slice a3 p.S.length c3] 26)).alloc (.cells #[.int .i64 (o:Int),.int .i64 (sx:Int),.int .i64 (y0:Int),.int .i64 (sy:Int)] 61))):=(((aV w.heap.size w).alloc (ah _) _).alloc (by simp) _:aA _ _ _);obtain⟨r,b1⟩:∃r,r=w.heap.size:=⟨_,rfl⟩;rw[show(⟨w.heap.size,0,none⟩:bG)=⟨r,0,none⟩by rw[b1],show(⟨w.heap.size+1,0,none⟩:bG)=⟨r+1,0,none⟩by rw[b1]];rw[<-b1]at HX HY;clear b1;revert a0 HX HY;generalize (w.alloc _).alloc _=w0;intro a0 HY HX;have R:au (∀wx,aA w0.heap.size w0 wx->(wx.cell? ⟨r,0,none⟩=some (.int .i64 (p.W:Int))/\wx.cell? ⟨r,1,none⟩=some (.int .i64 (p.H:Int))/\wx.cell? ⟨r,2,none⟩=some (.int .i64 (p.K:Int))/\wx.cell? ⟨r,3,none⟩=some (.int .i64 (p.D:Int))/\wx.cell? ⟨r,4,none⟩=some (.bool p.I)/\wx.cell? ⟨r,5,none⟩=some (.slice Y n1 c1)/\wx.cell? ⟨r,6,none⟩=some (.slice a2 n2 c2)/\wx.cell? ⟨r,7,none⟩=some (.slice a3 p.S.length c3))/\wx.cell? ⟨r+1,0,none⟩=some (.int .i64 (o:Int))/\wx.cell? ⟨r+1,1,none⟩=some (.int .i64 (sx:Int))):=(fun wx hb=>by have h:=(hb.block _ (ak HX.out)).trans HX.out;have g:=(hb.block _ (ak HY.out)).trans HY.out;exact⟨⟨by simpa using(cell_of h 0).1,by simpa using(cell_of h 1).1,by simpa using(cell_of h 2).1,by simpa using(cell_of h 3).1,by simpa using(cell_of h 4).1,by simpa using(cell_of h 5).1,by simpa using(cell_of h 6).1,by simpa using(cell_of h 7).1⟩,by simpa using(cell_of g 0).1,by simpa using(cell_of g 1).1⟩:∀wx,_)
 have f3:au (∀wx,aA w0.heap.size w0 wx->aA w.heap.size w wx):=(fun wx hb=>a0.out.trans (hb.mono a0.out.size):∀wx,_);obtain⟨⟨q0,q1,q2,q3,q4,q5,q6,q7⟩,q8,q9⟩:=R.out w0 (aV _ _);go_wp2_with fail
 clear q0 q1 q2 q3 q4 q5 q6 q7 q8 q9;go_loopw [7,8,9] (fun ov hv xv wr=> ∃(i T x:Nat) (og:Option bG) (G:Nat),ov= .slice og ((T+7)/8) G/\hv= .int .i64 ((T%8:Nat):Int)/\xv= .int .i64 (x:Int)/\i<=N/\x<=30/\T<=2000/\au (x=o+i*sx/\T=i*n*p.D)/\au (wr.ownsRow w0.heap.size 5 1 (.slice og ((T+7)/8) G) ((T+7)/8) (kF (qU (iF p.D X) T)))/\au (aA w0.heap.size w0 wr)) (fun _ _ xv _=>40-(bH xv).toNat)
 case atStart=>exact⟨0,0,o,none,0,rfl,rfl,rfl,aX _,by omega,by omega,(⟨by omega,by simp⟩:_/\_),(eX _ _ _ _:World.ownsRow _ _ _ _ _ _ _),(aV _ _:aA _ _ _)⟩
 case round=>
  obtain⟨i,T,x,og,G,rfl,rfl,rfl,hi,l2,i6,J,HO,HB⟩:=hrel;obtain⟨⟨q0,q1,q2,q3,q4,q5,q6,q7⟩,q8,q9⟩:=R.out wr HB.out;by_cases d0:i<N
  ·have i7:(x:Int)<(p.W:Int):=by have h1:=(c8.out i).1 d0;have h2:=J.out.1;omega
   have d2:au (∀wx:af,aH prog 12 #[.agg #[.int .i64 (p.W:Int),.int .i64 (p.H:Int),.int .i64 (p.K:Int),.int .i64 (p.D:Int),.bool p.I,.slice Y n1 c1,.slice a2 n2 c2,.slice a3 p.S.length c3]] wx fun e w'=>e= .returned (.int .i64 (n:Int))/\w'=wx.alloc (oC p.W p.H p.K p.D p.I (.slice Y n1 c1) (.slice a2 n2 c2) (.slice a3 p.S.length c3))):=(fun wx=>by rw[i4.out];exact pX p.W p.H p.K p.D p.I _ _ _ wx ⟨_,_,_,rfl⟩ ⟨_,_,_,rfl⟩ ⟨_,_,_,rfl⟩ i2.out.kinds:∀wx,_)
   go_wp2_with fail
   clear q0 q1 q2 q3 q4 q5 q6 q7 q8 q9;go_loopw [7,8,10] (fun ov hv kv wr=> ∃(k d:Nat) (og:Option bG) (G:Nat),ov= .slice og ((d+7)/8) G/\hv= .int .i64 ((d%8:Nat):Int)/\kv= .int .i64 (k:Int)/\k<=n/\d<=2000/\au (d=(i*n+k)*p.D)/\au (wr.ownsRow w0.heap.size 5 1 (.slice og ((d+7)/8) G) ((d+7)/8) (kF (qU (iF p.D X) d)))/\au (aA w0.heap.size w0 wr)) (fun _ _ kv _=>n-(bH kv).toNat)
   case atStart=>exact⟨0,T,og,G,rfl,rfl,rfl,aX _,i6,(by rw[J.out.2,cO]:_=_),HO,HB⟩
   case round=>
    obtain⟨k,d,f4,f5,rfl,rfl,rfl,hk,l3,b2,f6,b3⟩:=hrel;obtain⟨⟨q0,q1,q2,q3,q4,q5,q6,q7⟩,q8,q9⟩:=R.out wr b3.out;clear HO HB;go_wp2_with fail
    refine aU (d2.out _) ?_;rintro e w3 ⟨rfl,f7⟩;have d3:aA wr.heap.size wr w3:=by rw[f7];exact(aV _ _).alloc (ah _) _
    have M:au (aA w0.heap.size w0 w3):=(b3.out.trans (d3.mono b3.out.size):aA _ _ _);have d4:au _:=jS f6.out d3;clear f7 d3 b3 f6 q0 q1 q2 q3 q4 q5 q6 q7 q8 q9;by_cases i9:k<n
    ·have j0:(k:Int)<(n:Int):=by omega
     obtain⟨⟨q0,q1,q2,q3,q4,q5,q6,q7⟩,q8,q9⟩:=R.out w3 M.out;obtain⟨m1,O⟩:∃m1,m1=y*p.W:=⟨_,rfl⟩;have l4:m1<=400:=by rw[O];exact bD (show y<=20 by omega) f1
     obtain⟨m2,d5⟩:∃m2,m2=m1+x:=⟨_,rfl⟩;obtain⟨A,a4⟩:∃A,A=m2*n:=⟨_,rfl⟩;have l5:A<=430*4:=by rw[a4];exact bD (by omega) e7.2
     have hlen:A+k<p.S.length:=by rw[e8.out.1,a4,d5,O];have h1:=c9.out i d0;have h2:=J.out.1;have h3:(y*p.W+x+1)*n<=p.W*p.H*n:=dM _ (by omega);rw[eF,m_]at h3;omega
     have v1:(y:Int)*(p.W:Int)=(m1:Int):=by rw[<-jK,<-O]
     have v2:(m1:Int)+(x:Int)=(m2:Int):=by omega
     have v3:(m2:Int)*(n:Int)=(A:Int):=by rw[<-jK,<-a4]
     have v4:(A:Int)+(k:Int)=((A+k:Nat):Int):=by omega
     have j1:IntKind.i64.wrap ((y:Int)*(p.W:Int))=(m1:Int):=by rw[v1,eY];omega
     have j2:IntKind.i64.wrap ((m1:Int)+(x:Int))=(m2:Int):=by rw[v2,eY];omega
     have j3:IntKind.i64.wrap ((m2:Int)*(n:Int))=(A:Int):=by rw[v3,eY];omega
     have f8:IntKind.i64.wrap ((A:Int)+(k:Int))=((A+k:Nat):Int):=by rw[v4,eY];omega
     obtain⟨ad,rfl,f9,Q⟩:=HC.out (A+k) hlen;have d6:au (∀wx,aA w0.heap.size w0 wx->wx.cell? (ad.add (A+k))=some (.int .i64 ((p.S.getD (A+k) 0:Nat):Int))):=(fun wx hb=>(qB (a:=ad.add (A+k)) ((f3.out wx hb).block _ (by rw[wH];exact f9))).trans Q:∀wx,_);have g0:au (p.S.getD (A+k) 0=X.getD (i*n+k) 0):=(by rw[i1.out i k d0 i9,a4,d5,O,J.out.1,<-dK]:_=_)
     have g4:p.S.getD (A+k) 0<65536:=aN (nT e8.out.2 (kS _) _) f0;have a5:=d6.out w3 M.out;obtain⟨q,hq⟩:∃q,q=A+k:=⟨_,rfl⟩;rw[<-hq]at v4 f8 hlen a5 d6 g0 g4;have j4:(0:Int)<=(q:Int)/\(q:Int)<(p.S.length:Int):=by omega
     obtain⟨m5,m6⟩:=j4;generalize p.S.getD q 0=sv at*;have j5:=fun wx=>adh ad p.S.length c3 q hlen wx;clear Q hq O d5 a4 f9 v1 v2 v3 v4;go_upto_region 9 with fail
     go_region_held (fun w'=>(w'.cell? ⟨r,0,none⟩=some (.int .i64 (p.W:Int))/\w'.cell? ⟨r,1,none⟩=some (.int .i64 (p.H:Int))/\w'.cell? ⟨r,2,none⟩=some (.int .i64 (p.K:Int))/\w'.cell? ⟨r,3,none⟩=some (.int .i64 (p.D:Int))/\w'.cell? ⟨r,4,none⟩=some (.bool p.I)/\w'.cell? ⟨r,5,none⟩=some (.slice Y n1 c1)/\w'.cell? ⟨r,6,none⟩=some (.slice a2 n2 c2)/\w'.cell? ⟨r,7,none⟩=some (.slice (some ad) p.S.length c3))/\w'.cell? (ad.add q)=some (.int .i64 (sv:Int)))
      (first|go_keep) (first
      |(go_at_call 12;go_must (refine aU (d2.out _) ?_;rintro e w4 ⟨rfl,rfl⟩)))
     have d7:aA w3.heap.size w3 (w3.alloc (oC p.W p.H p.K p.D p.I (.slice Y n1 c1) (.slice a2 n2 c2) (.slice (some ad) p.S.length c3))).drew:=((aV _ _).alloc (ah _) _).drew;have B:au (aA w0.heap.size w0 (w3.alloc (oC p.W p.H p.K p.D p.I (.slice Y n1 c1) (.slice a2 n2 c2) (.slice (some ad) p.S.length c3))).drew):=(M.out.trans (d7.mono M.out.size):aA _ _ _);have C:au _:=jS d4.out d7;revert B C;generalize (w3.alloc (oC p.W p.H p.K p.D p.I (.slice Y n1 c1) (.slice a2 n2 c2) (.slice (some ad) p.S.length c3))).drew=w4;intro B C;clear d7 M d4 a5 j5 d6 d2 j1 j2 j3 f8 q0 q1 q2 q3 q4 q5 q6 q7 q8 q9;obtain⟨⟨q0,q1,q2,q3,q4,q5,q6,q7⟩,q8,q9⟩:=R.out w4 B.out;have j6:au (∀e,e<p.D->sv/2^(p.D-1-e)%2=iF p.D X (d+e)):=(fun e he=>by unfold iF;rw[b2.out,show((i*n+k)*p.D+e)/p.D=i*n+k by rw[eP,Nat.mul_add_div (by omega),Nat.div_eq_of_lt he,cO],show((i*n+k)*p.D+e)%p.D=e by rw[eP,Nat.mul_add_mod,gz he],g0.out]:∀e,_)
     have d8:au (d+p.D=(i*n+(k+1))*p.D/\d+p.D<=2000):=(by refine⟨by rw[b2.out,<-dK,eF (i*n+k) 1,m_],?_⟩;have h1:i*n<=19*4:=bD (by omega) e7.2;have h2:(i*n+k)*p.D<=80*16:=bD (by omega) e9.2;rw[b2.out];omega:_/\_)
     go_upto_region 11 with fail
     go_loopw [7,8,12] (fun ov hv bv wr=> ∃(e m h:Nat) (b:Int) (og:Option bG) (G:Nat),ov= .slice og m G/\hv= .int .i64 (h:Int)/\bv= .int .i64 b/\e<=p.D/\h<8/\m<=1000/\b=(p.D:Int)-1-(e:Int)/\au (m=(d+e+7)/8/\h=(d+e)%8)/\au (wr.ownsRow w0.heap.size 5 1 (.slice og m G) m (kF (qU (iF p.D X) (d+e))))/\au (aA w0.heap.size w0 wr)) (fun _ _ bv _=>(bH bv+1).toNat)
     case atStart=>exact⟨0,(d+7)/8,d%8,(p.D:Int)-1,f4,f5,rfl,rfl,by go_num,by omega,by omega,by omega,by omega,(⟨rfl,rfl⟩:_/\_),C,B⟩
     case round=>
      obtain⟨e,m,h,b,g5,d9,rfl,rfl,rfl,he,j7,g9,hb,a6,P,a7⟩:=hrel;clear B C q0 q1 q2 q3 q4 q5 q6 q7 q8 q9;by_cases j8:e<p.D;rotate_left
      ·have m7:¬(b>=0):=by omega
       have b4:au ((d+p.D+7)/8=m/\(d+p.D)%8=h/\e=p.D):=(by
        have h1:e=p.D:=by omega
        rw[<-h1];exact⟨a6.out.1.symm,a6.out.2.symm,rfl⟩:_/\_/\_)
       have f:au (wr.ownsRow w0.heap.size 5 1 (.slice g5 m d9) m (kF (qU (iF p.D X) (d+p.D)))):=(by have h:=P.out;rw[b4.out.2.2]at h;exact h:World.ownsRow _ _ _ _ _ _ _);clear P hb;go_wp2_with fail
       go_roundw
       case rel=>refine⟨k+1,d+p.D,g5,d9,by rw[b4.out.1],by rw[b4.out.2.1],by go_num,by omega,d8.out.2,(d8.out.1:_=_),?_,a7⟩;rw[b4.out.1];exact f
       case measure=>simp[bH];omega
      obtain⟨bn,rfl⟩:∃bn:Nat,b=(bn:Int):=⟨b.toNat,by omega⟩;have m8:bn<=15:=by omega
      have e0:au (sv/2^bn%2=iF p.D X (d+e)/\(e:Int)+1=(p.D:Int)-(bn:Int)):=(⟨by rw[<-j6.out e j8,show p.D-1-e=bn by omega],by omega⟩:_/\_);have m9:sv/2^bn<=sv:=Nat.div_le_self _ _;obtain⟨t,e2⟩:∃t,t=sv/2^bn%2:=⟨_,rfl⟩;have hand:bits BinOp.and IntKind.i64 ((sv:Int)/2^bn) 1=(t:Int):=by have h1:=uA (sv/2^bn) 1 (by omega) (by omega);rw[Nat.and_one_is_mod]at h1;rw[e2,<-h1];simp
      have j9:t<=1:=by omega
      have h4:au (iF p.D X (d+e)=t):=(by rw[e2];exact e0.out.1.symm:_=_);have k0:au ((bn:Int)-1=(p.D:Int)-1-((e+1:Nat):Int)):=(by have:=e0.out.2;omega:_=_);clear e2 e0 hb;have b9:w0.heap.size<=wr.heap.size:=a7.out.size;go_upto_if 52 with fail
      obtain⟨Z,hZ⟩:∃Z:Bool,Z=((h:Int)==0):=⟨_,rfl⟩;go_cut [7]from 47 to 76 (fun ov wx=> ∃(g c G v:Nat) (L:List Nat),ov= .slice (some ⟨g,0,none⟩) (c+1) G/\c<=1000/\v<128/\au (L.length=c/\qU (iF p.D X) (d+e+1)=L++[2*v+t]/\c+1=(d+e+1+7)/8)/\au (wx.ownsRow w0.heap.size 5 1 (.slice (some ⟨g,0,none⟩) (c+1) G) (c+1) (kF (L++[v])))/\au (aA w0.heap.size w0 wx)/\w0.heap.size<=g)
      case first=>
       by_cases h0:h=0
       ·subst h0;have HF:au ((qU (iF p.D X) (d+e)).length=m/\qU (iF p.D X) (d+e+1)=qU (iF p.D X) (d+e)++[2*0+t]/\m+1=(d+e+1+7)/8):=(by
         obtain⟨g1,g2⟩:=a6.out;refine⟨by rw[Zx,g1],?_,by omega⟩;rw[VW _ _ g2.symm,h4.out];simp:_/\_/\_)
        go_wp2_with (first
         |(at_builtin;refine Ws rfl _ _ rfl w0.heap.size _ m _ 0 P.out rfl rfl (by omega) b9 ?_;intro v' w6 u hg;obtain⟨l,c6,rfl⟩:=lI.jB u))
        have b5:au (aA w0.heap.size w0 w6):=(lI.mW a7.out (ah _) b9 P.out hg:aA _ _ _);have E:w0.heap.size<=l:=(u.lt l rfl).1;have f:au _:=u;clear u hg;go_wp2_with fail
        go_meet
        case rel=>exact⟨l,m,c6,0,qU (iF p.D X) (d+e),rfl,g9,by omega,HF,(by rw[mZ];exact f.out:World.ownsRow _ _ _ _ _ _ _),b5,E⟩
       ·have d1:((h:Int)==0)=false:=by rw[aI];omega
        obtain⟨g1,g2⟩:=a6.out;obtain⟨k1,k2⟩:=Jj (iF p.D X) (d+e) (by omega);have a8:=Gq (iF p.D X) (yU p.D X) ((d+e)/8) ((d+e)%8);have e4:2^((d+e)%8)<=2^7:=bT (by omega) (by omega);obtain⟨c,b6⟩:∃c,m=c+1:=⟨m-1,by omega⟩;subst b6;rw[h4.out]at k2;generalize nO (iF p.D X) ((d+e)/8) ((d+e)%8)=v at k1 k2 a8;obtain⟨L,hL⟩:∃L,L=(List.range ((d+e)/8)).map (fun j=>nO (iF p.D X) j 8):=⟨_,rfl⟩;rw[<-hL]at k1 k2;have F:L.length=c:=by rw[hL];simp;omega
        have HF:au (L.length=c/\qU (iF p.D X) (d+e+1)=L++[2*v+t]/\c+1=(d+e+1+7)/8):=(⟨F,k2,by omega⟩:_/\_/\_);have U:=P.out;rw[k1]at U;obtain⟨l,c6,e5⟩:=lI.jB U;injection e5 with e1 _ e3
        subst e1 e3;have E:w0.heap.size<=l:=(U.lt l rfl).1;have f:au _:=U;have b7:v<128:=by omega
        clear hL k1 k2 a8 e4 U g1 g2 P;go_wp2_with fail
        go_meet
        case rel=>exact⟨l,c,d9,v,L,rfl,by omega,b7,HF,f,a7,E⟩
      case rest=>
       obtain⟨l,c,c6,v,L,rfl,b6,b7,HF,f,b5,E⟩:=hcut;clear P a7 hZ;have kx:wc.cell? ⟨l,c,none⟩=some (.int .u8 (v:Int)):=by rw[f.out.cellAt c (by omega)];rw[mZ,fC (by rw[p_,HF.out.1];omega),p_,HF.out.1,iL];rfl
       have h6:wc.frozen? ⟨l,c,none⟩=false:=f.out.frozenAt c;have h7:=u8_or v t b7 j9;have O:((c:Int)+1)-1=(c:Int):=by omega
       obtain⟨z,hz⟩:∃z,z=2*v+t:=⟨_,rfl⟩;rw[<-hz]at h7;have HZ:au (z=2*v+t):=hz;clear hz;go_upto_region 15 with fail
       go_region
       have a9:au ((wc.setCell ⟨l,c,none⟩ (.int .u8 (z:Int))).drew.ownsRow w0.heap.size 5 1 (.slice (some ⟨l,0,none⟩) (c+1) c6) (c+1) (kF (qU (iF p.D X) (d+(e+1))))):=(by have h1:=Kr f.out c (.int .u8 (z:Int));rw[<-dK,HF.out.2.1,<-HZ.out,mZ];rw[mZ,List.set_append_right _ _ (by rw[p_,HF.out.1];omega),p_,HF.out.1,iL]at h1;exact h1:World.ownsRow _ _ _ _ _ _ _)
       have b0:au (aA w0.heap.size w0 (wc.setCell ⟨l,c,none⟩ (.int .u8 (z:Int))).drew):=((Below.setCell (p:=⟨l,c,none⟩) b5.out E _).drew:aA _ _ _);clear kx h6 f b5 E h7;revert a9 b0;generalize (wc.setCell ⟨l,c,none⟩ (.int .u8 (z:Int))).drew=w7;intro a9 b0;have h8:((h:Int)+1).tmod 8=(((h+1)%8:Nat):Int):=by rw[u_ (by omega)];omega
       have b8:au (c+1=(d+(e+1)+7)/8/\(h+1)%8=(d+(e+1))%8):=(⟨by rw[HF.out.2.2,dK d e 1],by have:=a6.out.2;omega⟩:_/\_);have k3:au (c+1<=1000):=(by have:=b8.out.1;have:=d8.out.2;omega:_<=_);go_wp2_with fail
       go_roundw
       case rel=>exact⟨e+1,c+1,(h+1)%8,(p.D:Int)-1-((e+1:Nat):Int),some ⟨l,0,none⟩,c6,by go_num,by go_num,by rw[<-k0.out],by omega,by omega,k3.out,rfl,b8,a9,b0⟩
       case measure=>simp[bH]
    ·have j0:¬((k:Int)<(n:Int)):=by omega
     obtain⟨⟨q0,q1,q2,q3,q4,q5,q6,q7⟩,q8,q9⟩:=R.out w3 M.out;have k4:au (x+sx=o+(i+1)*sx/\d=(i+1)*n*p.D):=(by
      have k5:k=n:=by omega
      refine⟨by rw[J.out.1,eF,m_];omega,?_⟩;rw[b2.out,k5,eF i 1 n,m_]:_/\_)
     have l6:x<=20:=by omega
     go_wp2_with fail
     go_roundw
     case rel=>exact⟨i+1,d,x+sx,f4,f5,rfl,rfl,by go_num,by omega,by omega,by omega,k4,d4,M⟩
     case measure=>simp[bH];omega
  ·have i7:¬((x:Int)<(p.W:Int)):=by
    have h1:=J.out.1;intro hc;have h3:=(c8.out i).2 (by omega);omega
   have h9:au (T=N*n*p.D):=(by
    have h1:i=N:=by omega
    rw[<-h1];exact J.out.2:_=_)
   have k6:au (∀m,T<=m->iF p.D X m=0):=(fun m hm=>by
    unfold iF;have h1:X.length<=m/p.D:=by rw[i5.out];exact(Nat.le_div_iff_mul_le (by omega)).2 (by rw[<-h9.out];exact hm)
    rw[ag,dD h1];simp:∀m,_)
   obtain⟨m,hm⟩:∃m,m=(T+7)/8:=⟨_,rfl⟩;rw[<-hm]at HO|-;have g9:m<=1000:=by omega
   have i0:au _:=hm;clear hm;go_wp2_with fail
   clear q0 q1 q2 q3 q4 q5 q6 q7 q8 q9;go_loopw [8] (fun hv wr=> ∃(s h:Nat),hv= .int .i64 (h:Int)/\h<8/\au (m=(s+7)/8/\h=s%8/\T<=s)/\au (wr.ownsRow w0.heap.size 5 1 (.slice og m G) m (kF (qU (iF p.D X) s)))/\au (aA w0.heap.size w0 wr)) (fun hv _=>(8-(bH hv).toNat)%8)
   case atStart=>exact⟨T,T%8,rfl,by omega,(⟨i0.out,rfl,ah _⟩:_/\_/\_),HO,HB⟩
   case round=>
    obtain⟨s,h,rfl,j7,e6,C,B⟩:=hrel;clear HO HB;by_cases h0:h=0
    ·subst h0;have k7:au (wr.ownsRow w.heap.size 5 1 (.slice og m G) LN V):=(by
      obtain⟨g1,g2,g3⟩:=e6.out;have k8:LN=m:=by rw[f2.out,i0.out];unfold bJ;rw[h9.out,ni,eP p.D n]
      have c5:=Zy p.D X s g2.symm;rw[show s/8=m by omega]at c5;rw[i3.out,<-f2.out,k8];have h5:=C.out;rw[c5]at h5;exact r_ h5 a0.out.size:World.ownsRow _ _ _ _ _ _ _)
     have k9:au _:=f3.out wr B.out;go_wp2_with fail
     go_ret;exact⟨_,rfl,k7.out,k9.out⟩
    ·have d1:((h:Int)==0)=false:=by rw[aI];omega
     obtain⟨g1,g2,g3⟩:=e6.out;obtain⟨k1,k2⟩:=Jj (iF p.D X) s (by omega);have a8:=Gq (iF p.D X) (yU p.D X) (s/8) (s%8);have e4:2^(s%8)<=2^7:=bT (by omega) (by omega);obtain⟨c,b6⟩:∃c,m=c+1:=⟨m-1,by omega⟩;subst b6;rw[k6.out s g3,cO]at k2;generalize nO (iF p.D X) (s/8) (s%8)=v at k1 k2 a8;obtain⟨L,hL⟩:∃L,L=(List.range (s/8)).map (fun j=>nO (iF p.D X) j 8):=⟨_,rfl⟩;rw[<-hL]at k1 k2;have F:L.length=c:=by rw[hL];simp;omega
     have HF:au (L.length=c/\qU (iF p.D X) (s+1)=L++[2*v]):=(⟨F,k2⟩:_/\_);have b8:au (c+1=(s+1+7)/8/\(h+1)%8=(s+1)%8/\T<=s+1):=(⟨by omega,by omega,by omega⟩:_/\_/\_);have U:=C.out;rw[k1]at U;obtain⟨l,c6,e5⟩:=lI.jB U;injection e5 with e1 _ e3
     subst e1 e3;have E:w0.heap.size<=l:=(U.lt l rfl).1;have f:au _:=U;have b7:v<128:=by omega
     have kx:wr.cell? ⟨l,c,none⟩=some (.int .u8 (v:Int)):=by rw[U.cellAt c (by omega)];rw[mZ,fC (by rw[p_,F];omega),p_,F,iL];rfl
     have h6:wr.frozen? ⟨l,c,none⟩=false:=U.frozenAt c;have O:((c:Int)+1)-1=(c:Int):=by omega
     have h8:((h:Int)+1).tmod 8=(((h+1)%8:Nat):Int):=by rw[u_ (by omega)];omega
     have a9:au ((wr.setCell ⟨l,c,none⟩ (.int .u8 ((v:Int)*2))).ownsRow w0.heap.size 5 1 (.slice (some ⟨l,0,none⟩) (c+1) G) (c+1) (kF (qU (iF p.D X) (s+1)))):=(by have h1:=Kr f.out c (.int .u8 ((v:Int)*2));rw[HF.out.2,mZ,show((2*v:Nat):Int)=(v:Int)*2 by omega];rw[mZ,List.set_append_right _ _ (by rw[p_,F];omega),p_,F,iL]at h1;exact h1:World.ownsRow _ _ _ _ _ _ _)
     have b0:au (aA w0.heap.size w0 (wr.setCell ⟨l,c,none⟩ (.int .u8 ((v:Int)*2)))):=(Below.setCell (p:=⟨l,c,none⟩) B.out E _:aA _ _ _);clear hL k1 k2 a8 e4 U g1 g2 g3 C e6 F;go_wp2_with fail
     go_roundw
     case rel=>exact⟨s+1,(h+1)%8,by go_num,by omega,b8,a9,b0⟩
     case measure=>simp[bH];omega
end Kp
end Go.Proofs.YtephkcdbnogdhabGreatDoor
