import Derived.Stop.LaidTwo
import Derived.Test.YtephkcdbnogdhaaGreatDoorM32
set_option linter.unusedVariables false
set_option maxHeartbeats 40000000
set_option maxRecDepth 10000
namespace Go.Proofs.YtephkcdbnogdhaaGreatDoor
open Go.Proofs.Tryz
open Go renaming World->af,Value->ay,Calls->aF,TypeId->aY,Addr->bP
open Go.RowKit renaming Hid->ah,Below->aJ
namespace Pr
open Go.RowKit Rf Cr
open h_ (cut gz aT fV jo)
theorem NS(S:Src)(cb:Nat)(s:ByteArray)(w:af)(eb lb:bP)(p left:Nat)(l:List UInt8)(h:CR S cb s w p dV left l)(hs:jI w eb S.fb lb S.base)(D:jk w)(c:Cn)(E:c.Ok)(d:eU)(g7 g8:Nat)(hm:fK c w d g7 g8)(hp:EL c d)(q:d.told=0)
 (hF:∀k,cnF c g7 g8 k->S.base<=k/\¬jP S cb k) (b:Nat) (G:w.heap[b]?=some (RY cb lW)) (r:S.base<=b) (j:¬jP S cb b) (t:¬cnF c g7 g8 b) (size:Nat) (u:size<=16777216) (hd:(qR s p left l).size<=140737488354000):
 aF prog 45 #[.iface 266 (.pointer (some ⟨b,0,none⟩)),.int .i64 (size:Int),.func (.func 161) #[.pointer (some ⟨c.rb,0,none⟩)] #[]] w fun e w'=>
  (Oo (qR s p left l) size (fun _=> ∃P,Ends s p left l P)/\e= .returned .nilIface/\(∃f g i,n_ c.P (qP (wU (qR s p left l) size).out) d=some f/\fK c w' f g i)/\(∃P,Ends s p left l P/\CR S cb s w' P.p P.name P.left P.l)/\PE S.base w w')\/
  ((∃T a,e= .returned (.iface T (.pointer (some a)))/\dO S w' T a (¬(Oo (qR s p left l) size (fun _=> ∃P,Ends s p left l P)/\∃f,n_ c.P (qP (wU (qR s p left l) size).out) d=some f)))/\oC S cb w'/\PE S.base w w'):=by
 have m:¬S.F b:=fun e=>j (.inl e);have n:b≠cb:=fun e=>j (.inr e);have v:=aah S cb b lW s eb lb (fun P=>Ends s p left l P) h.ok h.base r m n;have o:=Ya S cb b s eb lb (fun P=>Ends s p left l P) h.ok h.base m n;have hI:=ada QH c d S.base E;have hK:rwK c d w [] (cnF c g7 g8):=⟨d,g7,g8,rfl,hm,hp,by rw[q];exact aU _,rfl⟩;have x:(VL S cb b lW s eb lb (fun P=>Ends s p left l P)).K w (qR s p left l) 0:=⟨G,hs,p,left,l,h,aU _,by rw[kG];show(kU s p left l).toArray.toList=_;simp,fun P=>Iff.rfl⟩;refine(UM (VL S cb b lW s eb lb (fun P=>Ends s p left l P)) v (qR s p left l) size w c.rb 161 (rwK c d) (aaQ c d) hI _ _ _ o (cnF c g7 g8) hK (fun k y=>⟨(hF k y).1,fun e=>e.elim (hF k y).2 (fun e=>t (e▸y))⟩) x D rfl hd u).mono ?_;rintro e w' (⟨z,rfl,⟨F',⟨f,g,i,H,I,R,U,V⟩,B⟩,⟨P,J,L⟩,W,M⟩|⟨⟨T,a,rfl,z⟩,N,B⟩)
 ·exact .inl ⟨z,rfl,⟨f,g,i,H,I⟩,⟨P,J,L⟩,M⟩
 ·refine .inr ⟨⟨T,a,rfl,?_⟩,N.2.2,B⟩;refine Or.imp (fun⟨O,A⟩=>⟨O,?_⟩) id z;rintro⟨h3,f,C⟩;rcases A with A|⟨pre,Q,h6⟩
  ·exact A h3
  ·rw[Yt Q h6]at C;cases C
theorem PE.kJ{base:Nat}{w w':af}(h:aJ w.heap.size w w')(hb:base<=w.heap.size):PE base w w':=⟨h.os,h.tape,h.output,h.size,fun k a=>h.block k (by omega),fun k cur T f e _=>h.block k (ai e)⟩
theorem PE.eF{base:Nat}{w w':af}(h:PE base w w')(b o:Nat)(hb:w.heap.size<=b/\base<=b)(v:ay):PE base w (w'.setCell ⟨b,o,none⟩ v):=
 ⟨h.os,h.tape,h.output,by simp;exact h.size,fun k a=>(aB o v (by omega)).trans (h.low k a),fun k cur T f e c=>(aB o v (by have:=ai e;omega)).trans (h.other k cur T f e c)⟩
theorem NT(S:Src)(cb:Nat)(s:ByteArray)(w:af)(eb lb:bP)(p left:Nat)(l:List UInt8)(h:CR S cb s w p dV left l)(hs:jI w eb S.fb lb S.base)(kb base W H D K:Nat)(I:Bool)(st:Cs)(hc:ry w kb base W H D K I st)(hb:S.base<=base)(hO:jk w)(c9:mG w)
 (hK:K=0\/K=2\/K=3\/K=4\/K=6) (hD:jH D) (j9:st.C.length<=4) (d0:1<=W) (d1:1<=H) (d2:W*H<=1048576) (t:lC) (n:(dZ W H I)[0]?=some t) (k0:s.size<=140737488354000):
 aF prog 126 #[.pointer (some ⟨cb,0,none⟩),qX W H D K I,.pointer (some ⟨kb,0,none⟩)] w fun e w'=>
  (∃gp f,n_ (Iy W H D K I st) (qP (wU (qR s p left l) (kY (D*bF K) (dZ W H I))).out) (rs0 (D*bF K) (4*W*H) t)=some f/\UO s p left l W H D K I st t/\e= .returned (.tuple #[.agg #[.int .i64 (W:Int),.int .i64 (H:Int),.slice (some ⟨gp,0,none⟩) (4*W*H) (4*W*H)],.nilIface])/\iC w' gp f.dM/\w.heap.size<=gp/\¬jP S cb gp/\(∃P,Ends s p left l P/\CR S cb s w' P.p P.name P.left P.l)/\PE S.base w w')\/
  ((∃T a,e= .returned (.tuple #[.agg #[.int .i64 0,.int .i64 0,.slice none 0 0],.iface T (.pointer (some a))])/\dO S w' T a (¬UO s p left l W H D K I st t))/\oC S cb w'/\PE S.base w w'):=by
 have a0:1<=D/\D<=16:=by rcases hD with rfl|rfl|rfl|rfl|rfl<;>omega
 have O:W<=1048576:=aK (nT W d1) d2;have d4:H<=1048576:=aK (tV H d0) d2;have d5:4*W*H<=4194304:=by rw[jM];omega
 have a1:bF K<=4:=by rcases hK with rfl|rfl|rfl|rfl|rfl<;>decide
 have u:D*bF K<=64:=bT a0.2 a1;have b:=KZ W H I d0 d1 O d4;have b1:t∈dZ W H I:=iP n;have d6:kY (D*bF K) (dZ W H I)<=16777216:=by have x:=Qw (D*bF K) u (dZ W H I) (fun t n=>⟨(b t n).1.1,(b t n).1.2.2.1⟩);rw[Hq]at x;omega
 have b2:=h.e.lt.2;have l8:7<=w.heap.size:=aK h.ok.ng b2;obtain⟨ev,cv,a2,_,_⟩:=hc.at';have l9:base<=kb:=hc.kb;have m0:base<=w.heap.size:=hc.hp;have k6:=hc.Di;obtain⟨l6,b3⟩:∃o:Obj,o= .cells #[.int .i64 (W:Int),.int .i64 (H:Int),.int .i64 (D:Int),.int .u8 (K:Int),.bool I] 221:=⟨_,rfl⟩;have k7:ah (∀rb vb gp pv,(Cn.mk rb vb kb gp base W H D K I ev cv pv st.E st.jG st.C (dZ W H I)).Ok):=(fun rb vb gp pv=>⟨hK,hD,by show st.E.length<=1000;omega,j9,O,d5,Be W H I,fun t n=>(b t n).1,fun t n=>(b t n).2⟩:∀rb,_);have k8:ah (∀rb vb gp pv,EL (Cn.mk rb vb kb gp base W H D K I ev cv pv st.E st.jG st.C (dZ W H I)) (rs0 (D*bF K) (4*W*H) t)):=(fun rb vb gp pv=>⟨aU _,fun t' k9=>by
  have e:t'=t:=by have:(dZ W H I)[0]?=some t':=k9;rw[n]at this;exact(dB this).symm
  subst e;exact⟨(b t' b1).1.2.2.1,by show(List.replicate _ 0).length=_;rw[mJ],.inl rfl⟩⟩:∀rb,_)
 have d7:=fun w'=>Nw W H D K kb I w' O d5 (by omega);have d8:=fun vb w' (x:mG w') (h2:7<=w'.heap.size)=>QI W H D K vb I t w' x h2 O d4 a0.2 (by omega) n (b t b1).1.2.1;have d9:=fun rb pv w' c0 c1 hp hr=>aaI rb (D*bF K) base pv (dZ W H I) w' c0 c1 hp (Be W H I) u (fun t n=>⟨(b t n).1.2.1,(b t n).1.2.2.2.1⟩) hr;have b4:ah _:=d7;have Q:ah _:=d8;have e0:ah _:=d9;have l0:ah _:=d6;clear d7 d8 d9 d6 b b1 n u a1;have HC:ah _:=h;have c:ah _:=a2;have HS:ah _:=hs;have HO:ah _:=hO;have l1:ah _:=c9;have e1:(qR s p left l).size<=140737488354000:=aK (UN s p left l h.le) k0;have HJ:ah _:=e1;have l7:=h.ok;clear h hc a2 hs hO c9 e1 b3;have e3:((w.alloc (.cells #[.int .i64 (W:Int),.int .i64 (H:Int),.int .i64 (D:Int),.int .u8 (K:Int),.bool I] 221)).alloc (.cells #[.int .i64 0,.int .i64 0,.slice none 0 0] 32)).heap[w.heap.size]?=some (.cells #[.int .i64 (W:Int),.int .i64 (H:Int),.int .i64 (D:Int),.int .u8 (K:Int),.bool I] 221 (0,0)):=(aj _ _ _ (by simp)).trans (aO w _);have e4:((w.alloc (.cells #[.int .i64 (W:Int),.int .i64 (H:Int),.int .i64 (D:Int),.int .u8 (K:Int),.bool I] 221)).alloc (.cells #[.int .i64 0,.int .i64 0,.slice none 0 0] 32)).heap[w.heap.size+1]?=some (.cells #[.int .i64 0,.int .i64 0,.slice none 0 0] 32 (0,0)):=by have:=aO (w.alloc (.cells #[.int .i64 (W:Int),.int .i64 (H:Int),.int .i64 (D:Int),.int .u8 (K:Int),.bool I] 221)) (.cells #[.int .i64 0,.int .i64 0,.slice none 0 0] 32);simpa using this
 have e5:aJ w.heap.size w ((w.alloc (.cells #[.int .i64 (W:Int),.int .i64 (H:Int),.int .i64 (D:Int),.int .u8 (K:Int),.bool I] 221)).alloc (.cells #[.int .i64 0,.int .i64 0,.slice none 0 0] 32)):=((aP _ _).alloc (ag _) _).alloc (by simp) _;have e6:ah _:=e3;have e7:ah _:=e4;have e8:ah _:=e5;clear e3 e4 e5;unfold qX at b4 Q|-;unfold Qp at Q;go_enter func126,ntmps126
 go_wp2_with fail
 refine bz (b4.out _) ?_;rintro e w1 ⟨vb,gp,rfl,k1,k2,k3,k4,k5⟩;have e9:((w.alloc (.cells #[.int .i64 (W:Int),.int .i64 (H:Int),.int .i64 (D:Int),.int .u8 (K:Int),.bool I] 221)).alloc (.cells #[.int .i64 0,.int .i64 0,.slice none 0 0] 32)).heap.size=w.heap.size+2:=by simp
 rw[e9]at k1 k2 k5;have j4:w1.heap[w.heap.size]?=some (.cells #[.int .i64 (W:Int),.int .i64 (H:Int),.int .i64 (D:Int),.int .u8 (K:Int),.bool I] 221 (0,0)):=(k5.block _ (by omega)).trans e6.out;have j6:w1.heap[w.heap.size+1]?=some (.cells #[.int .i64 0,.int .i64 0,.slice none 0 0] 32 (0,0)):=(k5.block _ (by omega)).trans e7.out;have R:aJ w.heap.size w w1:=gI e8.out (k5.mono (by omega));have f0:w1.cell? ⟨w.heap.size,0,none⟩=some (.int .i64 (W:Int)):=by simpa using(cell_of j4 0).1
 have f1:w1.cell? ⟨w.heap.size,1,none⟩=some (.int .i64 (H:Int)):=by simpa using(cell_of j4 1).1
 have f2:w1.cell? ⟨w.heap.size,2,none⟩=some (.int .i64 (D:Int)):=by simpa using(cell_of j4 2).1
 have f3:w1.cell? ⟨w.heap.size,3,none⟩=some (.int .u8 (K:Int)):=by simpa using(cell_of j4 3).1
 have f4:w1.cell? ⟨w.heap.size,4,none⟩=some (.bool I):=by simpa using(cell_of j4 4).1
 have f5:ah _:=Q.out vb w1 (mG.below l1.out R (by omega)) (by have:=R.size;omega);have l3:=ai j6;have f6:ah _:=j6;have b5:ah _:=R;have f7:ah _:=k3;have f8:ah _:=k4;have f9:=ai k3;have g0:=ai k4;clear j4 j6 R k3 k4 k5 e6 e7 e8 b4 Q e9;go_wp2_with fail
 refine bz f5.out ?_;rintro e w2 ⟨rb,pv,g7,g8,rfl,m1,m2,m3,m4,m5,m6,m7,m8,m9⟩;have b6:aJ w.heap.size w w2:=gI b5.out (m9.mono (jh b5.out));have n0:=m9.size;have HM:ah _:=(⟨m2,m5,m6,m7,m8⟩:_/\_/\_/\_/\_);have y:ah _:=(m9.block _ l3).trans f6.out;have q:ah _:=(m9.block _ f9).trans f7.out;have r:ah (iC w2 gp _):=((m9.block _ g0).trans f8.out:_=_);have b7:ah _:=b6;have a3:ah _:=CR.grow HC.out (fun k d=>b6.block k d);have b8:ah _:=abt S cb s w2 p left l a3.out;clear m2 m5 m6 m7 m8 m9 b6 f0 f1 f2 f3 f4 f5 f6 f7 f8;unfold lW at b8;go_wp2_with fail
 refine bz b8.out ?_;rintro e w3 ⟨rfl,z⟩;have j:∀k,k<w2.heap.size->w3.heap[k]?=w2.heap[k]?:=fun k d=>by rw[z];exact aj _ _ k d
 have g1:w3.heap[w2.heap.size]?=some (RY cb lW):=by rw[z];exact aO w2 _
 have g2:w3.heap.size=w2.heap.size+1:=by rw[z];simp
 have A:aJ w.heap.size w w3:=by rw[z];exact Below.alloc b7.out (jh b7.out) _
 obtain⟨m2,m5,m6,m7,m8⟩:=HM.out;have B:=(j rb (ai m6)).trans m6;have b9:w3.ownsRow base 301 6 pv (dZ W H I).length (dn (dZ W H I)):=zM (iM m5 (fun k d=>j k (m5.lt k d).2)) (by have:=jh b5.out;omega);have g3:ah _:=e0.out rb pv w3 (by simpa [dN]using(cell_of B 0).1) (by simpa [dN]using(cell_of B 1).1) b9 (ai B);have g4:jL w3 g7 _:=(j g7 (ai m7)).trans m7;have g5:jL w3 g8 _:=(j g8 (ai m8)).trans m8;have g6:=(j vb (ai q.out)).trans q.out;have g9:iC w3 gp _:=(j gp (ai r.out)).trans r.out;have h0:=(j _ (ai y.out)).trans y.out;have F:jE w3 kb base W H D K I ev st.E st.jG cv st.C:=jE.over c.out (fun k d=>A.block k (by
  rcases d with rfl|d|d
  ·exact ai (jE.nN c.out)
  ·exact(iE (jE.nP c.out) k d).2
  ·exact(iE (jE.Bq c.out) k d).2))
 have a4:cv.ownBlock≠some gp:=fun e=>by have:=(iE (jE.Bq c.out) gp e).2;omega
 have h4:=(CR.grow HC.out (fun k d=>A.block k d)).e;obtain⟨a5,h5⟩:=Yu h4 hb B g4 g5 m2 g6 g9 b9 F a4 (by omega) (by omega) (by omega) (by omega) (by omega) (by omega);have a6:=jh b7.out;have h7:¬cnF (Cn.mk rb vb kb gp base W H D K I ev cv pv st.E st.jG st.C (dZ W H I)) g7 g8 w2.heap.size:=fun e=>by
  have q0:=ai (jE.nN c.out);rcases e with(e|e|e|e)|e|e|e|e|e
  ·have:=ai m6;dsimp only at e;omega
  ·have:=ai r.out;dsimp only at e;omega
  ·have:=ai m7;omega
  ·have:=ai m8;omega
  ·have:=ai q.out;dsimp only at e;omega
  ·dsimp only at e;omega
  ·have:=(iE (jE.nP c.out) _ e).2;omega
  ·have:=(iE (jE.Bq c.out) _ e).2;omega
  ·have:=(m5.lt _ e).2;omega
 have h9:ah _:=g1;have c3:ah _:=h0;have i0:ah _:=A;have G:ah _:=a5;have c4:ah _:=h5;have i1:ah _:=h7;have l4:ah _:=g2;have a7:w.heap.size<=w3.heap.size:=A.size;have l5:ah (w.heap.size<=gp):=(by omega:_<=_);have i2:ah _:=a7;have a8:ah _:=a6;clear h7 a5 h5 g1 h0 A j z B b9 g4 g5 g6 g9 F a4 h4 a6 a7 m2 m5 m6 m7 m8 HM q r y e0 g2 b8 a3;generalize a9:kY (D*bF K) (dZ W H I)=SZ at*;go_wp2_with fail
 refine bz g3.out ?_;rintro e w4 ⟨rfl,c5⟩;have U:∀k,k<w3.heap.size->w4.heap[k]?=w3.heap[k]?:=fun k d=>c5.block k d;have J:aJ w.heap.size w w4:=gI i0.out (c5.mono i2.out);have b0:=CR.grow HC.out (fun k d=>J.block k d);have i3:=jI.over HS.out (fun k d=>J.block k (by omega));have i4:=jk.over HO.out (J.block _ (by omega));have i5:=fK.over G.out (fun k d=>U k (fK.lt G.out k d));have i6:w4.heap[w2.heap.size]?=some (RY cb lW):=(U _ (by have:=l4.out;omega)).trans h9.out;have i7:=(U _ (ai c3.out)).trans c3.out;have i9:¬jP S cb w2.heap.size:=fun e=>by have:=(oC.lt (CR.e HC.out)).1 _ (.inl e);have:=a8.out;omega
 have V:ah _:=NS S cb s w4 eb lb p left l b0 i3 i4 _ (k7.out rb vb gp pv) _ g7 g8 i5 (k8.out rb vb gp pv) rfl c4.out w2.heap.size i6 (by have:=a8.out;omega) i9 i1.out SZ l0.out HJ.out;have X:ah _:=i7;have j0:ah _:=J;have j1:ah (¬jP S cb gp):=((c4.out gp (.inl (.inr (.inl rfl)))).2:¬_);clear U J b0 i3 i4 i5 i6 i7 i9 c5 g3 h9 c3 i0 G c4 i1;dsimp only[Cn.P]at V;go_wp2_with fail
 refine bz V.out ?_;rintro e L (⟨Y,rfl,⟨f,u7,u8,M,N⟩,q4,q5⟩|⟨⟨T,a,rfl,Y⟩,M,N⟩)
 ·have g:=(q5.other _ _ _ _ X.out (by decide)).trans X.out;have i:PE S.base w L:=(PE.kJ j0.out b2).trans q5;have j2:ah _:=XQ W H D K kb vb I _ L N.can _ _ _ rfl;have HQ:ah _:=(⟨Y,M,N,q4,i⟩:_/\_/\_/\_/\_);have j3:=ai g;have c6:ah _:=g;clear Y M N q4 q5 g i V;go_wp2_with fail
  refine bz j2.out ?_;rintro e w6 ⟨rfl,c7⟩;have m:=(c7.block _ j3).trans c6.out;have z0:w6.cell? ⟨w.heap.size+1,0,none⟩=some (.int .i64 0):=by simpa using(cell_of m 0).1
  have z1:w6.cell? ⟨w.heap.size+1,1,none⟩=some (.int .i64 0):=by simpa using(cell_of m 1).1
  have z2:w6.cell? ⟨w.heap.size+1,2,none⟩=some (.slice none 0 0):=by simpa using(cell_of m 2).1
  have y0:=(cell_of m 0).2;have y1:=(cell_of m 1).2;have y2:=(cell_of m 2).2;have j5:ah _:=c7;clear m c7 j2;go_wp2_with fail
  refine aI (v:= .tuple #[.agg #[.int .i64 (W:Int),.int .i64 (H:Int),.slice (some ⟨gp,0,none⟩) (4*W*H) (4*W*H)],.nilIface]) (by simp[results,results126,go_sem,z0,z1,z2]) rfl ?_;obtain⟨Y,M,N,⟨P,q4,j7⟩,i⟩:=HQ.out;subst a9;have c8:=(oC.lt (CR.e HC.out)).1;have d:∀k,k≠w.heap.size+1->k<L.heap.size->(((w6.setCell ⟨w.heap.size+1,0,none⟩ (.int .i64 (W:Int))).setCell ⟨w.heap.size+1,1,none⟩ (.int .i64 (H:Int))).setCell ⟨w.heap.size+1,2,none⟩ (.slice (some ⟨gp,0,none⟩) (4*W*H) (4*W*H))).heap[k]?=L.heap[k]?:=fun k x h2=>((aB _ _ x).trans ((aB _ _ x).trans (aB _ _ x))).trans (Below.block j5.out k h2);refine .inl ⟨gp,f,M,⟨Y,f,M⟩,rfl,(d gp (by omega) (ai N.dM)).trans N.dM,l5.out,j1.out,⟨P,q4,j7.over (fun k Z=>d k (by have:=c8 k Z;omega) ((oC.lt (CR.e j7)).1 k Z))⟩,?_⟩;exact(((i.trans (PE.kJ j5.out (by have:=i.size;omega))).eF _ _ (by omega) _).eF _ _ (by omega) _).eF _ _ (by omega) _
 ·have g:=(N.other _ _ _ _ X.out (by decide)).trans X.out;have i:PE S.base w L:=(PE.kJ j0.out b2).trans N;have z0:L.cell? ⟨w.heap.size+1,0,none⟩=some (.int .i64 0):=by simpa using(cell_of g 0).1
  have z1:L.cell? ⟨w.heap.size+1,1,none⟩=some (.int .i64 0):=by simpa using(cell_of g 1).1
  have z2:L.cell? ⟨w.heap.size+1,2,none⟩=some (.slice none 0 0):=by simpa using(cell_of g 2).1
  have y0:=(cell_of g 0).2;have y1:=(cell_of g 1).2;have y2:=(cell_of g 2).2;have HQ:ah _:=(⟨Y,M,i⟩:_/\_/\_);have j8:ah _:=g;clear Y M N g i V;have c6:ah _:=(show L.heap[w.heap.size+1]?=some (.cells #[.int .i64 0,.int .i64 0,.slice none 0 0] 32 (0,0))from j8.out);go_wp2_with fail
  refine aI (v:= .tuple #[.agg #[.int .i64 0,.int .i64 0,.slice none 0 0],.iface T (.pointer (some a))]) (by simp[results,results126,go_sem,z0,z1,z2]) rfl ?_;obtain⟨Y,M,i⟩:=HQ.out;subst a9;have c8:=(oC.lt (CR.e HC.out)).1;have d:∀k,k≠w.heap.size+1->(((L.setCell ⟨w.heap.size+1,0,none⟩ (.int .i64 0)).setCell ⟨w.heap.size+1,1,none⟩ (.int .i64 0)).setCell ⟨w.heap.size+1,2,none⟩ (.slice none 0 0)).heap[k]?=L.heap[k]?:=fun k x=>(aB _ _ x).trans ((aB _ _ x).trans (aB _ _ x));refine .inr ⟨⟨T,a,rfl,dO.over Y (fun k cur f e=>d k (fun e2=>by rw[e2,c6.out]at e;simp at e))⟩,M.over (fun k Z=>d k (by have:=c8 k Z;omega)),?_⟩;exact((i.eF _ _ (by omega) _).eF _ _ (by omega) _).eF _ _ (by omega) _
theorem o_.EZ{s:ByteArray}{D K p:Nat}{st:Cs}{P:Pt}{m_:Cs}(h:o_ s D K p st P m_):∀{P2:Pt} {a:Cs},o_ s D K p st P2 a->P2=P/\a=m_:=by
 induction h with
 |here i c h3=>
  intro P2 a g;cases g with
  |here d b e=>exact⟨rfl,rfl⟩
  |more d b e j f=>exact absurd c b
 |more i c h3 l m k=>
  intro P2 a g;cases g with
  |here d b e=>exact absurd b c
  |more d b e j f=>exact k f
theorem Ends.EZ{s:ByteArray}{p left:Nat}{l:List UInt8}{P:Pt}(h:Ends s p left l P):∀{P2:Pt},Ends s p left l P2->P2=P:=by
 induction h with
 |stop e f h3=>
  intro P2 g;cases g with
  |stop b c a=>rfl
  |more b c a d=>exact absurd a h3
 |more e f h3 j i=>
  intro P2 g;cases g with
  |stop b c a=>exact absurd h3 a
  |more b c a d=>exact i d
theorem o_.clear{s:ByteArray}{D K p:Nat}{st:Cs}{P:Pt}{m_:Cs}(h:o_ s D K p st P m_)(hK:bF K<=4):st.C.length<=4->m_.C.length<=4:=by
 induction h with
 |here b c h3=>exact id
 |more b c h3 e f d=>
  intro a;refine d ?_;unfold YW;split
  ·exact a
  ·split
   ·unfold Nu;split
    ·exact a
    ·show(Ol _ _ _).length<=4;rw[Ff];exact hK
   ·exact a
theorem o_.Bi{s:ByteArray}{D K p:Nat}{st:Cs}{P:Pt}{m_:Cs}(h:o_ s D K p st P m_):P.name=dV:=by
 induction h with
 |here a b h3=>rfl
 |more a b h3 d e c=>exact c
def hW(s:ByteArray):Nat:=aT (dQ s 16 13) 0
def hH(s:ByteArray):Nat:=aT (dQ s 16 13) (0+4)
def hD(s:ByteArray):Nat:=aA (dQ s 16 13) (0+8)
def hK(s:ByteArray):Nat:=aA (dQ s 16 13) (0+9)
def hI(s:ByteArray):Bool:=decide (aA (dQ s 16 13) (0+12)=1)
structure Way(s:ByteArray)(P1:Pt)(st:Cs)(t:lC)(P2:Pt):Prop where
 head:H0 s
 ahead:o_ s (hD s) (hK s) 33 ⟨[],false,[]⟩ P1 st
 first:(dZ (hW s) (hH s) (hI s))[0]?=some t
 rows:UO s P1.p P1.left P1.l (hW s) (hH s) (hD s) (hK s) (hI s) st t
 ends:Ends s P1.p P1.left P1.l P2
 rest:Rest s P2
def Good(s:ByteArray):Prop:=∃P1 st t P2,Way s P1 st t P2
theorem Way.EZ{s:ByteArray}{P1:Pt}{st:Cs}{t:lC}{P2:Pt}(h:Way s P1 st t P2){a:Pt}{m_:Cs}{b:lC}{c:Pt}(g:Way s a m_ b c):a=P1/\m_=st/\b=t/\c=P2:=by
 obtain⟨d,e⟩:=h.ahead.EZ g.ahead;subst d e;refine⟨rfl,rfl,?_,h.ends.EZ g.ends⟩;have:=h.first
 rw[g.first]at this;exact dB this
noncomputable def NU(s:ByteArray)(P1:Pt)(st:Cs)(t:lC):Option eU:=n_ (Iy (hW s) (hH s) (hD s) (hK s) (hI s) st) (qP (wU (qR s P1.p P1.left P1.l) (kY (hD s*bF (hK s)) (dZ (hW s) (hH s) (hI s)))).out) (rs0 (hD s*bF (hK s)) (4*hW s*hH s) t)
theorem pR{s:ByteArray}(h:H0 s):(hK s=0\/hK s=2\/hK s=3\/hK s=4\/hK s=6)/\jH (hD s)/\(hK s=3->hD s<=8)/\1<=hW s/\1<=hH s:=by
 obtain⟨_,_,h3,_⟩:=h;obtain⟨s1,s2,g,i,j⟩:=h3;have hm:vC (hK s) (hD s)=true:=g.2;have a:(hK s=0\/hK s=2\/hK s=3\/hK s=4\/hK s=6)/\jH (hD s)/\(hK s=3->hD s<=8):=by
  unfold jH;generalize hK s=k at*;generalize hD s=d at*;have b:0<bF k->k=0\/k=2\/k=3\/k=4\/k=6:=by
   intro hp;unfold bF at hp;repeat' split at hp
   all_goals omega
  unfold vC at hm;by_cases c:d=1\/d=2\/d=4
  ·rw[aC c]at hm;simp at hm;omega
  ·rw[au c]at hm;by_cases e:d=8
   ·rw[aC e]at hm;have:=b (nS hm);omega
   ·rw[au e]at hm;by_cases f:d=16
    ·rw[aC f]at hm;simp at hm;have:=b hm.1;omega
    ·rw[au f]at hm;cases hm
 exact⟨a.1,a.2.1,a.2.2,s1.2,s2.2⟩
end Pr
namespace Pr
open Go.RowKit Rf Cr
open h_ (cut gz aT fV jo qp lets yS dF RZ pq)
theorem adz(K D:Nat)(h:vC K D=true):K<7/\D<17:=by
 have a:0<bF K->K=0\/K=2\/K=3\/K=4\/K=6:=by
  intro hp;unfold bF at hp;repeat' split at hp
  all_goals omega
 unfold vC at h;by_cases b:D=1\/D=2\/D=4
 ·rw[aC b]at h;simp at h;omega
 ·rw[au b]at h;by_cases c:D=8
  ·rw[aC c]at h;have:=a (nS h);omega
  ·rw[au c]at h;by_cases d:D=16
   ·rw[aC d]at h;simp at h;have:=a h.1;omega
   ·rw[au d]at h;cases h
theorem YH(K D:Nat):(K<7/\D<17/\RZ (uZ K) (pq D))↔vC K D=true:=by
 constructor
 ·rintro⟨a,b,h3⟩;rw[<-Rz K a D b];exact(Ry _ _).1 h3
 ·intro h;obtain⟨a,b⟩:=adz K D h;refine⟨a,b,(Ry _ _).2 ?_⟩;rw[Rz K a D b];exact h
theorem LC(d:ByteArray)(hd:d.size=13):headD d↔DL d 0:=by
 unfold headD DL qM vZ v_;have hm:Match d (0+10) DK↔aA d 10=0/\aA d 11=0:=by
  have m:DK.size=2:=rfl;have j:aA DK 0=0:=by decide
  have k:aA DK 1=0:=by decide
  unfold Match;rw[m];constructor
  ·rintro⟨_,h⟩;have b:=h 0 (by omega);have a:=h 1 (by omega);rw[j]at b;rw[k]at a;exact⟨b,a⟩
  ·rintro⟨b,a⟩;refine⟨by omega,fun i hi=> ?_⟩;rcases(by omega:i=0\/i=1)with rfl|rfl
   ·rw[j];exact b
   ·rw[k];exact a
 have hs:=YH (aA d 9) (aA d 8);have l:∀t,t+4<=13->(oU d t↔aT d t<=2147483647):=fun t v=>by unfold oU;exact⟨fun h=>h.2,fun h=>⟨by omega,h⟩⟩
 rw[hm,l 0 (by omega),l (0+4) (by omega)];simp only[Nat.zero_add];constructor
 ·rintro⟨a,g,h3,e,n,h6,w⟩;exact⟨⟨e.2.2.1,e.1⟩,⟨e.2.2.2,e.2.1⟩,⟨by omega,hs.1 ⟨a,g,h3⟩⟩,⟨n,h6⟩,by omega,by omega⟩
 ·rintro⟨⟨o,p⟩,⟨q,r⟩,⟨_,c⟩,⟨s,u⟩,_,f⟩;obtain⟨a,g,h3⟩:=hs.2 c;exact⟨a,g,h3,⟨p,r,o,q⟩,s,u,by omega⟩
end Pr
namespace Pr
open Go.RowKit Rf Cr
open h_ (cut gz iG aT fV iw jo jd qp lets yS dF RZ pq)
theorem vT(l:List UInt8)(i:Nat):aA ⟨l.toArray⟩ i=(l.getD i 0).toNat:=by simp[aA]
theorem IK(s:ByteArray)(t N:Nat)(m:N<4294967296):Match s t ⟨(iw N).toArray⟩↔t+4<=s.size/\aT s t=N:=by
 have b:aA ⟨(iw N).toArray⟩ 0=N/16777216%256:=by rw[vT];simp[iw]
 have c:aA ⟨(iw N).toArray⟩ 1=N/65536%256:=by rw[vT];simp[iw]
 have d:aA ⟨(iw N).toArray⟩ 2=N/256%256:=by rw[vT];simp[iw]
 have e:aA ⟨(iw N).toArray⟩ 3=N%256:=by rw[vT];simp[iw]
 have f:(⟨(iw N).toArray⟩:ByteArray).size=4:=rfl;have n:=dH s t;have o:=dH s (t+1);have p:=dH s (t+2);have q:=dH s (t+3);unfold Match aT;rw[f];constructor
 ·rintro⟨a,h⟩;have g:=h 0 (by omega);have j:=h 1 (by omega);have k:=h 2 (by omega);have l:=h 3 (by omega);rw[b,eH]at g;rw[c]at j;rw[d]at k;rw[e]at l;exact⟨a,by omega⟩
 ·rintro⟨a,h⟩;refine⟨a,fun i hi=> ?_⟩;rcases(by omega:i=0\/i=1\/i=2\/i=3)with rfl|rfl|rfl|rfl
  ·rw[b,eH];omega
  ·rw[c];omega
  ·rw[d];omega
  ·rw[e];omega
theorem abN{x y:ByteArray}(a:x.size=y.size)(b:∀i,i<x.size->aA x i=aA y i):x=y:=by
 apply oJ;apply Array.ext
 ·exact a
 ·intro i hi c;have e:=b i hi;rw[dL x i hi,dL y i c]at e;exact UInt8.toNat_inj.1 e
theorem LD(s:ByteArray)(t:Nat)(x:ByteArray):Match s t x↔t+x.size<=s.size/\dQ s t x.size=x:=by
 unfold Match;constructor
 ·rintro⟨a,b⟩;refine⟨a,abN (gq s t _ a) (fun i hi=> ?_)⟩;rw[gq s t _ a]at hi;rw[nG s t _ i hi (by omega)];exact b i hi
 ·rintro⟨a,b⟩;refine⟨a,fun i hi=> ?_⟩;rw[<-nG s t x.size i hi (by omega),b]
theorem Bo(x y:ByteArray)(i:Nat):aA (x++y) i=if i<x.size then aA x i else aA y (i-x.size):=by
 have hs:x.size=x.data.toList.length:=by simp
 unfold aA;rw[ByteArray.data_append,Array.toList_append,ak];by_cases h:i<x.size
 ·rw[aC h,dh (by omega),<-ak]
 ·rw[au h,dw (by omega),<-ak,<-hs]
theorem YI(s:ByteArray)(t:Nat)(x y:ByteArray):Match s t (x++y)↔Match s t x/\Match s (t+x.size) y:=by
 unfold Match;have b:(x++y).size=x.size+y.size:=by simp
 rw[b];constructor
 ·rintro⟨c,a⟩;refine⟨⟨by omega,fun i hi=> ?_⟩,by omega,fun i hi=> ?_⟩
  ·rw[a i (by omega),Bo,aC hi]
  ·rw[kF,a (x.size+i) (by omega),Bo,au (by omega),Nat.add_sub_cancel_left]
 ·rintro⟨⟨c,a⟩,h3,d⟩;refine⟨by omega,fun i hi=> ?_⟩;rw[Bo];by_cases h:i<x.size
  ·rw[aC h];exact a i h
  ·rw[au h,<-d (i-x.size) (by omega),show t+x.size+(i-x.size)=t+i by omega]
theorem adB(s:ByteArray)(p:Nat):jK s (p+8) (aT s p) (cut s (p+4) 4)↔p+8+aT s p+4<=s.size/\yS s p:=by unfold jK yS;rw[IK _ _ _ (jd _),Nat.add_comm (aT s p) 4,iG s (p+4) 4 (aT s p)]
theorem Vd(s:ByteArray)(p:Nat):qp s p↔(oU s p/\lets s p)/\jK s (p+8) (aT s p) (cut s (p+4) 4):=by
 rw[adB];unfold qp oU;constructor
 ·rintro⟨d,a,h3,b,c⟩;exact⟨⟨⟨by omega,a⟩,b⟩,by omega,c⟩
 ·rintro⟨⟨⟨d,a⟩,b⟩,h3,c⟩;exact⟨by omega,a,by omega,b,c⟩
theorem IL(s:ByteArray)(p i:Nat)(n:ByteArray)(a:n.size=4)(h:p+4<=s.size)(b:dQ s p 4=n)(hi:i<=4):preB (dQ s p i) n=true:=by
 have c:=gq s p i (by omega);unfold preB;rw[c,gQ,iV];refine⟨aZ (by rw[a];exact hi),?_⟩;rw[<-b,bD,bD,fG];have d:(dQ s p 4).data.toList=cut s p 4:=by unfold dQ;simp
 have e:(dQ s p i).data.toList=cut s p i:=by unfold dQ;simp
 rw[ni,jU,d,e,kG,Nat.sub_zero];unfold cut;rw[List.take_take,qx hi]
theorem Fp(s:ByteArray)(p:Nat)(n:ByteArray)(a:n.size=4)(h:p+4<=s.size):preB (dQ s p 4) n=true↔dQ s p 4=n:=
 ⟨fun e=>VJ (gq s p 4 h) a e,fun e=>IL s p 4 n a h e (by omega)⟩
theorem CU(s:ByteArray)(p i:Nat)(h:p+4<=s.size)(hi:1<=i):aA (dQ s p i) 0=aA s p:=nG s p i 0 (by omega) (by omega)
theorem YJ(s:ByteArray)(p:Nat):((dQ s p 4).toList==nD.toList)=decide (dQ s p 4=nD):=by
 by_cases h:dQ s p 4=nD
 ·rw[h,aZ rfl];exact beq_self_eq_true _
 ·rw[uz h,aS h]
theorem uA(s:ByteArray)(p:Nat):l_ oV s p↔p+8<=s.size/\oU s p/\lets s p/\(Jc (aA s (p+4))=true\/dQ s (p+4) 4=kT\/dQ s (p+4) 4=dV):=by
 unfold l_ vY lets;constructor
 ·rintro⟨d,c,h3,f⟩;refine⟨c,d,h3,?_⟩;have h:=f 4 (by omega) (by omega);unfold oV at h;rw[CU s (p+4) 4 c (by omega)]at h;simp only[List.any_cons,List.any_nil,Bool.or_false,Bool.or_eq_true]at h;rw[Fp s (p+4) _ rfl c,Fp s (p+4) _ rfl c]at h;exact h
 ·rintro⟨c,d,h3,f⟩;refine⟨d,c,h3,fun i a b=> ?_⟩;unfold oV;rw[CU s (p+4) i c a];simp only[List.any_cons,List.any_nil,Bool.or_false,Bool.or_eq_true];exact f.imp id (Or.imp (fun e=>IL s _ i _ rfl c e b) (fun e=>IL s _ i _ rfl c e b))
theorem zx(s:ByteArray)(p:Nat)(h:p+4<=s.size):kQ (dQ s p 4)=true↔(Jc (aA s p)=true/\dQ s p 4≠nD)\/dQ s p 4=jm:=by unfold kQ;rw[CU s p 4 h (by omega),YJ];simp only[List.any_cons,List.any_nil,Bool.or_false,Bool.or_eq_true,Bool.and_eq_true,Bool.not_eq_true',decide_eq_false_iff_not];rw[Fp s p _ rfl h]
theorem LG(s:ByteArray)(p i:Nat)(h:p+4<=s.size)(b:1<=i)(hb:i<=4)(c:kQ (dQ s p 4)=true):kQ (dQ s p i)=true:=by
 rcases(zx s p h).1 c with⟨a,d⟩|a
 ·unfold kQ;rw[CU s p i h b,a];have:(dQ s p i)≠nD:=by
   rcases(by omega:i=4\/i<4)with rfl|hi
   ·exact d
   ·intro e;have f:=gq s p i (by omega);rw[e]at f;have:nD.size=4:=rfl;omega
  rw[uz this];rfl
 ·unfold kQ;have:preB (dQ s p i) jm=true:=IL s p i _ rfl h a hb;simp[this]
theorem CV(s:ByteArray)(p:Nat):l_ kQ s p↔p+8<=s.size/\oU s p/\lets s p/\((Jc (aA s (p+4))=true/\dQ s (p+4) 4≠nD)\/dQ s (p+4) 4=jm):=by
 unfold l_ vY lets;constructor
 ·rintro⟨d,c,h3,e⟩;exact⟨c,d,h3,(zx s (p+4) c).1 (e 4 (by omega) (by omega))⟩
 ·rintro⟨c,d,h3,e⟩;exact⟨d,c,h3,fun i a b=>LG s (p+4) i c a b ((zx s (p+4) c).2 e)⟩
theorem u_(s:ByteArray)(p:Nat):l_ jQ s p↔p+8<=s.size/\oU s p/\lets s p/\(((Jc (aA s (p+4))=true/\dQ s (p+4) 4≠nD)\/dQ s (p+4) 4=jm)\/dQ s (p+4) 4=dV):=by
 unfold l_ vY lets jQ;constructor
 ·rintro⟨d,c,h3,f⟩;have h:=f 4 (by omega) (by omega);simp only[List.any_cons,List.any_nil,Bool.or_false,Bool.or_eq_true]at h;rw[zx s (p+4) c,Fp s (p+4) _ rfl c]at h;exact⟨c,d,h3,h⟩
 ·rintro⟨c,d,h3,f⟩;refine⟨d,c,h3,fun i a b=> ?_⟩;simp only[List.any_cons,List.any_nil,Bool.or_false,Bool.or_eq_true];exact f.imp (fun e=>LG s (p+4) i c a b ((zx s (p+4) c).2 e)) (fun e=>IL s _ i _ rfl c e b)
def H0D(s:ByteArray):Prop:=Match s 0 lu/\qp s 8/\dQ s (8+4) 4=mP/\aT s 8=13/\headD (dQ s (8+8) 13)
theorem NV(s:ByteArray):H0 s↔H0D s:=by
 unfold H0 H0D acX;rw[YI,IK _ _ _ (by omega),LD s (8+_) mP];have k:(⟨(iw 13).toArray⟩:ByteArray).size=4:=rfl;have e:mP.size=4:=rfl;rw[k,e];have j:=QJ (s:=s) (p:=16) (n:=13) (m:=13) (l:=mP.data.toList) (by omega);rw[show 16+13=29 from rfl,show 13-13=0 from rfl]at j;rw[j,Vd];constructor
 ·rintro⟨f,⟨⟨g,h3⟩,d,b⟩,h6,c⟩;have h:mP.data.toList=cut s 12 4:=by rw[<-yT s 12 4];exact gY (fun x=>x.data.toList) b.symm
  rw[h]at c;have a:29<=s.size:=by have:=c.1;omega
  refine⟨f,⟨⟨⟨g,by omega⟩,fun i hi=> ?_⟩,by rw[h3];exact c⟩,b,h3,(LC _ (gq s 16 13 a)).2 h6⟩;rw[<-nG s (8+4) 4 i hi (by omega),b];rcases(by omega:i=0\/i=1\/i=2\/i=3)with rfl|rfl|rfl|rfl<;>decide
 ·rintro⟨f,⟨⟨g,h3⟩,d⟩,b,h6,c⟩;rw[h6]at d;have h:mP.data.toList=cut s 12 4:=by rw[<-yT s 12 4];exact gY (fun x=>x.data.toList) b.symm
  have a:29<=s.size:=by have:=d.1;omega
  refine⟨f,⟨⟨g.1,h6⟩,by omega,b⟩,(LC _ (gq s 16 13 a)).1 c,by rw[h];exact d⟩
end Pr
namespace Pr
open Go.RowKit Rf Cr
open h_ (cut gz iG aT fV iw jo jd qp lets yS dF RZ pq di YE fB)
theorem IM{s:ByteArray}{p:Nat}(h:qp s p)(a:97<=aA s (p+4)):Jc (aA s (p+4))=true:=by have:=h.2.2.2.1 0 (by omega);rw[eH]at this;unfold dF at this;unfold Jc;simp at this|-;omega
theorem CX{s:ByteArray}{p:Nat}(a:Jc (aA s (p+4))=true):97<=aA s (p+4):=by unfold Jc at a;simp at a;omega
theorem CY{s:ByteArray}{p:Nat}(hp:p+8<=s.size){n:ByteArray}(h:dQ s (p+4) 4=n):aA s (p+4)=aA n 0:=by rw[<-h,CU s (p+4) 4 (by omega) (by omega)]
theorem IP{s:ByteArray}{p:Nat}(hp:p+8<=s.size)(b:Jc (aA s (p+4))=true):dQ s (p+4) 4≠jm/\dQ s (p+4) 4≠dV/\dQ s (p+4) 4≠kT:=by
 have hb:=CX b;refine⟨fun e=> ?_,fun e=> ?_,fun e=> ?_⟩
 ·have:=CY hp e;have a:aA jm 0=73:=by decide
  omega
 ·have:=CY hp e;have a:aA dV 0=73:=by decide
  omega
 ·have:=CY hp e;have a:aA kT 0=80:=by decide
  omega
def Kept(x y:PS):Prop:=y.pl=x.pl/\y.tr=x.tr/\y.tb=x.tb
def YK(s:ByteArray)(p:Nat):Pt:=⟨p+8,dQ s (p+4) 4,aT s p,cut s (p+4) 4⟩
theorem qV{s:ByteArray}{p:Nat}(h:qp s p):p+8<=s.size/\oU s p/\lets s p/\jK s (p+8) (aT s p) (cut s (p+4) 4):=by have a:=(Vd s p).1 h;have:=h.1;exact⟨by omega,a.1.1,a.1.2,a.2⟩
theorem IQ{s:ByteArray}{p:Nat}(a:oU s p)(b:lets s p)(h3:jK s (p+8) (aT s p) (cut s (p+4) 4)):qp s p:=(Vd s p).2 ⟨⟨a,b⟩,h3⟩
theorem adG{s:ByteArray}{K D:Nat}{x y:PS}(h:qY s K D x y):x.bW=2->l_ kQ s x.pos/\Rest s (YK s x.pos)/\Kept x y/\y.da=x.da:=by
 induction h with
 |done f g h3 i j=>intro _;obtain⟨a,b,c,d⟩:=qV f;refine⟨(CV s _).2 ⟨a,b,c,.inr g⟩,?_,⟨rfl,rfl,rfl⟩,rfl⟩;unfold YK;rw[g,i];rw[i]at d;exact .last d j
 |Bi f g h3 i j k=>intro e;omega
 |Bj f g h3 i k=>intro e;have:=h3.1;omega
 |Bl f g h3 i j h6 k=>intro e;omega
 |other f g h3 i j h6 p k=>intro e;obtain⟨a,b,c,d⟩:=qV f;obtain⟨l,m,n,o⟩:=k (by show(if _ then 2 else _)=2;rw[au (by omega)];exact e);refine⟨(CV s _).2 ⟨a,b,c,.inl ⟨IM f h6,j⟩⟩,?_,n,o⟩;exact .more g d l m
theorem adH{s:ByteArray}{K D:Nat}{P:Pt}(h:Rest s P):∀x:PS,x.bW=2->P=YK s x.pos->l_ kQ s x.pos->∃y,qY s K D x y:=by
 induction h with
 | @last p l f i=>
   intro x hx e j;unfold YK at e;injection e with k m g n
   obtain⟨a,b,c,d⟩:=(CV s _).1 j;subst k n;rw[g]at f;exact⟨x,.done (IQ b c f) m.symm (by omega) g.symm i⟩
 | @more p left name l f i h3 w q=>
   intro x hx e j;unfold YK at e;injection e with k m g n
   obtain⟨a,b,c,d⟩:=(CV s _).1 j;subst k m g n;have o:=IQ b c i;rcases d with⟨d1,d2⟩|d
   ·obtain⟨r,t,u⟩:=IP a d1;obtain⟨y,v⟩:=q ⟨Bv s x.pos,if x.bW=1 then 2 else x.bW,x.pl,x.tr,x.pb,x.tb,x.da⟩ (by show(if _ then 2 else _)=2;rw[au (by omega)];exact hx) rfl h3;exact⟨y,.other o r t u d2 (CX d1) v⟩
   ·exact absurd d f
theorem adI{s:ByteArray}{K D:Nat}{x y:PS}(h:qY s K D x y):x.bW=1->∀(p left:Nat) (l:List UInt8),x.pos=p+left+4->jK s p left l->∃P,Ends s p left l P/\Rest s P/\Kept x y/\
 ∀n,x.da.data.toList=n++cut s p left->y.da.data.toList=n++kU s p left l:=by
 induction h with
 | @done x g f h3 i j=>
   intro uJ p left l hp hF;obtain⟨a,b,c,d⟩:=qV g;rw[hp]at a b c d f i j;have o:dQ s (p+left+4+4) 4≠dV:=by rw[f];decide
   refine⟨_,.stop hF ((u_ s _).2 ⟨a,b,c,.inl (.inr f)⟩) o,?_,⟨rfl,rfl,rfl⟩,fun n e=> ?_⟩
   ·rw[f,i];rw[i]at d;exact .last d j
   ·rw[e,pK (fun r=>o ((wQ s p left l).1 r).2.2)]
 | @Bi x y g f h3 i j q=>
   intro uJ p left l hp hF;obtain⟨a,b,c,d⟩:=qV g;rw[hp]at a b c d f;have t:=(u_ s _).2 ⟨a,b,c,.inr f⟩;obtain⟨P,u,v,w,z⟩:=q rfl (p+left+4+8) (aT s (p+left+4)) (cut s (p+left+4+4) 4) (by show Bv s x.pos=_;unfold Bv;rw[hp]) d;refine⟨P,.more hF t f u,v,w,fun n e=> ?_⟩;have:=z (x.da.data.toList) (by show(x.da++dQ s (x.pos+8) (aT s x.pos)).data.toList=_;rw[ByteArray.data_append,Array.toList_append,yT,hp])
   rw[this,e,uS ((wQ s p left l).2 ⟨hF,t,f⟩),bV]
 |Bj g f h3 i q=>intro e;have:=h3.1;omega
 |Bl g f h3 i j h6 q=>intro e;omega
 | @other x y g f h3 i j h6 A q=>
   intro uJ p left l hp hF;obtain⟨a,b,c,d⟩:=qV g;have Am:=IM g h6;obtain⟨B,C,E,F⟩:=adG A (by show(if _ then 2 else _)=2;rw[aC uJ]);have k:l_ kQ s (Bv s x.pos):=B;have m:Rest s (YK s (Bv s x.pos)):=C;unfold Bv at k m;rw[hp]at a b c d f h3 j Am k m;refine⟨_,.stop hF ((u_ s _).2 ⟨a,b,c,.inl (.inl ⟨Am,j⟩)⟩) h3,?_,E,fun n e=> ?_⟩
   ·exact .more f d k m
   ·rw[F];show x.da.data.toList=_;rw[e,pK (fun r=>h3 ((wQ s p left l).1 r).2.2)]
theorem adJ{s:ByteArray}{K D:Nat}{p left:Nat}{l:List UInt8}{P:Pt}(h:Ends s p left l P):Rest s P->∀x:PS,x.bW=1->x.pos=p+left+4->(K=3->x.pb=true)->∃y,qY s K D x y:=by
 induction h with
 | @stop p left l u j h3=>
   intro f x uJ hp k;obtain⟨a,b,c,d⟩:=(u_ s _).1 j;generalize t:(⟨p+left+4+8,dQ s (p+left+4+4) 4,aT s (p+left+4),cut s (p+left+4+4) 4⟩:Pt)=P at f;cases f with
   |last g m=>
    injection t with n o i q
    subst n q;rw[<-i]at g;rw[<-hp]at*;exact⟨x,.done (IQ b c g) o (by omega) i m⟩
   |more g m v w=>
    injection t with n o i q
    subst n o i q;have e:=IQ b c m;rcases d with(⟨d1,d2⟩|d)|d
    ·obtain⟨z,A,B⟩:=IP a d1;rw[<-hp]at*;obtain⟨y,r⟩:=adH (K:=K) (D:=D) w ⟨Bv s x.pos,if x.bW=1 then 2 else x.bW,x.pl,x.tr,x.pb,x.tb,x.da⟩ (by show(if _ then 2 else _)=2;rw[aC uJ]) rfl v;exact⟨y,.other e z A B d2 (CX d1) r⟩
    ·exact absurd d g
    ·exact absurd d h3
 | @more p left l P u j h3 C E=>
   intro f x uJ hp k;obtain⟨a,b,c,d⟩:=(u_ s _).1 j;obtain⟨y,r⟩:=E f ⟨Bv s x.pos,1,x.pl,x.tr,x.pb,x.tb,x.da++dQ s (x.pos+8) (aT s x.pos)⟩ rfl (by show Bv s x.pos=_;unfold Bv;rw[hp]) k;have e:=IQ b c C.first.1
   rw[<-hp]at e h3;exact⟨y,.Bi e h3 (by omega) k r⟩
structure Lk(K:Nat)(x:PS)(st:Cs):Prop where
 bW:x.bW=0
 da:x.da=ByteArray.empty
 pb:x.pb=true↔st.E.length≠0
 pl:x.pb=true->x.pl.size=3*st.E.length
 tb:x.tb=st.jG
 tr:x.tb=false->x.tr.size=0
 says:adF K st x.pl x.tr x.tb
theorem aeQ(D:Nat)(h:D<=8):pw D<=256:=by
 have:=uC D 8 h;have e:pw 8=256:=by decide
 omega
theorem Lk.Bj{s:ByteArray}{K D:Nat}{x:PS}{st:Cs}(h:Lk K x st)(k:qp s x.pos)(l:K=3->D<=8):Jd K D x (aT s x.pos)↔GU s (x.pos+8) (aT s x.pos) D K st.E.length st.jG:=by
 have p:=k.2.2.1;generalize aT s x.pos=n at*;unfold Jd GU GR;rw[h.tb];have m:x.pb=false↔st.E.length=0:=by
  have:=h.pb;cases hx:x.pb with
  |false=>rw[hx]at this;simp at this;simp[this]
  |true=>rw[hx]at this;simp at this;simp[this]
 rw[m];by_cases f:K=3
 ·have:=aeQ D (l f);rw[aC f];constructor
  ·rintro⟨q,a,b,c,d,g,o,i,j⟩;have:=j f;exact⟨⟨⟨c,d⟩,a,b,by omega,by omega,g⟩,by omega⟩
  ·rintro⟨⟨⟨c,d⟩,a,b,g,o,i⟩,j⟩;exact⟨h.bW,a,b,c,d,i,by omega,by omega,fun _=>by omega⟩
 ·rw[au f];constructor
  ·rintro⟨q,a,b,c,d,g,o,i,j⟩;exact⟨⟨⟨c,d⟩,a,b,by omega,by omega,g⟩,by omega⟩
  ·rintro⟨⟨⟨c,d⟩,a,b,g,o,i⟩,j⟩;exact⟨h.bW,a,b,c,d,i,by omega,by omega,fun e=>absurd e f⟩
theorem Lk.aed{s:ByteArray}{K D:Nat}{x:PS}{st:Cs}(h:Lk K x st)(b:qp s x.pos)(hp:Jd K D x (aT s x.pos)):
 Lk K ⟨Bv s x.pos,x.bW,dQ s (x.pos+8) (aT s x.pos),x.tr,true,x.tb,x.da⟩ (aao s (x.pos+8) (aT s x.pos) st):=by
 have d:=b.2.2.1;obtain⟨g,i,c,k,l,m,o,p,q⟩:=hp;generalize aT s x.pos=n at*;have a:=gq s (x.pos+8) n (by omega);have yj:=h.tr c;refine⟨h.bW,h.da,?_,fun _=> ?_,h.tb,h.tr,?_,h.says.aec,?_⟩
 ·show true=true↔(xI s (x.pos+8) (n/3)).length≠0;rw[wR];simp;omega
 ·show(dQ s (x.pos+8) n).size=3*(xI s (x.pos+8) (n/3)).length;rw[wR,a];omega
 ·intro e;show(dQ s (x.pos+8) n).size=3*(xI s (x.pos+8) (n/3)).length/\∀j,j<(xI s (x.pos+8) (n/3)).length->(xI s (x.pos+8) (n/3)).getD j (0,0,0,0)=_;rw[wR,a];refine⟨by omega,fun j f=> ?_⟩;rw[adC _ _ _ _ f,au (by show¬j<x.tr.size;omega)];unfold z_;rw[nG s (x.pos+8) n (3*j) (by omega) (by omega),nG s (x.pos+8) n (3*j+1) (by omega) (by omega),nG s (x.pos+8) n (3*j+2) (by omega) (by omega)];rfl
 ·intro e hb;have:x.tb=true:=hb;rw[c]at this;cases this
theorem Lk.Bl{s:ByteArray}{K D:Nat}{x:PS}{st:Cs}(h:Lk K x st)(e:qp s x.pos)(hK:K=0\/K=2\/K=3\/K=4\/K=6):(x.bW=0/\x.tb=false/\Oq K D x (dQ s (x.pos+8) (aT s x.pos)))↔sF s (x.pos+8) (aT s x.pos) D K st:=by
 have o:=e.2.2.1;generalize aT s x.pos=n at*;have c:=gq s (x.pos+8) n (by omega);unfold sF Oq;rw[h.tb,c];have hb:∀k,k<n->aA (dQ s (x.pos+8) n) k=aA s (x.pos+8+k):=fun k f=>nG s (x.pos+8) n k f (by omega);have h3:K=3->((x.pb=true/\1<=n/\n<=x.pl.size/3)↔Jm s (x.pos+8) n st.E.length):=fun f=>by
  unfold Jm;constructor
  ·rintro⟨g,l,p⟩;have:=h.pl g;exact⟨l,by omega,by omega⟩
  ·rintro⟨g,l,p⟩;have hp:=h.pb.2 (by omega);have:=h.pl hp;exact⟨hp,g,by omega⟩
 have m:(K=0\/K=2)->(YE (dQ s (x.pos+8) n) D K↔Ns s (x.pos+8) n D K):=fun f=>by
  unfold YE Ns Bd;rw[c,zN K hK];constructor
  ·rintro⟨c1,c2⟩;refine⟨c1,fun j i=>⟨by omega,?_⟩⟩;have:=c2 j i;rw[hb _ (by omega),hb _ (by omega)]at this;exact this
  ·rintro⟨c1,c2⟩;refine⟨c1,fun j i=> ?_⟩;rw[hb _ (by omega),hb _ (by omega)];exact(c2 j i).2
 constructor
 ·rintro⟨_,d,⟨a,b⟩|⟨a,b⟩⟩
  ·exact⟨d,.inr ⟨a,(h3 a).1 b⟩⟩
  ·exact⟨d,.inl ⟨a,(m a).1 b⟩⟩
 ·rintro⟨d,⟨a,b⟩|⟨a,b⟩⟩
  ·exact⟨h.bW,d,.inr ⟨a,(m a).2 b⟩⟩
  ·exact⟨h.bW,d,.inl ⟨a,(h3 a).2 b⟩⟩
theorem Lk.abP{s:ByteArray}{K D:Nat}{x:PS}{st:Cs}(h:Lk K x st)(f:qp s x.pos)(hK:K=0\/K=2\/K=3\/K=4\/K=6)(hp:sF s (x.pos+8) (aT s x.pos) D K st):
 Lk K ⟨Bv s x.pos,x.bW,x.pl,dQ s (x.pos+8) (aT s x.pos),x.pb,true,x.da⟩ (Nu s (x.pos+8) (aT s x.pos) K st):=by
 have m:=f.2.2.1;obtain⟨o,l⟩:=hp;have yj:=h.tr (by rw[h.tb];exact o);generalize aT s x.pos=n at*;have g:=gq s (x.pos+8) n (by omega);have hb:∀k,k<n->aA (dQ s (x.pos+8) n) k=aA s (x.pos+8+k):=fun k c=>nG s (x.pos+8) n k c (by omega);unfold Nu;by_cases c:K=3
 ·rw[aC c];have i:(wu s (x.pos+8) st.E n).length=st.E.length:=wS _ _ _ _;have p:Jm s (x.pos+8) n st.E.length:=by
   rcases l with⟨b,_⟩|⟨_,b⟩
   ·omega
   ·exact b
  obtain⟨s1,s2⟩:=h.says.nP c;refine⟨h.bW,h.da,?_,fun e=> ?_,rfl,(fun e=>by cases e),?_,(fun e=>by cases e),(fun e=>by omega)⟩
  ·show x.pb=true↔(wu s (x.pos+8) st.E n).length≠0;rw[i];exact h.pb
  ·show x.pl.size=3*(wu s (x.pos+8) st.E n).length;rw[i];exact h.pl e
  ·intro _;show x.pl.size=3*(wu s (x.pos+8) st.E n).length/\∀j,j<(wu s (x.pos+8) st.E n).length->(wu s (x.pos+8) st.E n).getD j (0,0,0,0)=_;rw[i];refine⟨s1,fun j d=> ?_⟩;rw[adE _ _ _ _ _ d,s2 j d];show _=(_,_,_,if j<(dQ s (x.pos+8) n).size then di (aA (dQ s (x.pos+8) n) j) 8 else 65535);rw[g];by_cases a:j<n
   ·rw[aC a,aC a,hb j a]
   ·rw[au a,au a,au (by omega)]
 ·rw[au c];rcases l with⟨r,q⟩|⟨b,_⟩
  ·refine⟨h.bW,h.da,h.pb,h.pl,rfl,(fun e=>by cases e),(fun e=>absurd e c),(fun e=>by cases e),fun _ _=>⟨Ff _ _ _,fun j d=> ?_⟩⟩;have t:=q.1;show(Ol s (x.pos+8) (bF K)).getD j 0=_;rw[aeP _ _ _ _ d];show sh s (x.pos+8+2*j)=256*aA (dQ s (x.pos+8) n) (2*j)+aA (dQ s (x.pos+8) n) (2*j+1);rw[hb _ (by omega),hb _ (by omega)];rfl
  ·exact absurd b c
theorem abQ{s:ByteArray}{K D:Nat}(hK:K=0\/K=2\/K=3\/K=4\/K=6)(w:K=3->D<=8){x y:PS}(h:qY s K D x y):∀st:Cs,Lk K x st->∃P1 m_ P2,o_ s D K x.pos st P1 m_/\Ends s P1.p P1.left P1.l P2/\Rest s P2/\adF K m_ y.pl y.tr y.tb/\y.da=qR s P1.p P1.left P1.l:=by
 induction h with
 | @done x i g h3 j k=>intro st f;have:=f.bW;omega
 | @Bi x y i g h3 j k t=>
   intro st f;obtain⟨a,b,c,d⟩:=qV i;obtain⟨P,m,n,o,q⟩:=adI k rfl (x.pos+8) (aT s x.pos) (cut s (x.pos+4) 4) rfl d;refine⟨_,st,P,.here ((uA s _).2 ⟨a,b,c,.inr (.inr g)⟩) g (fun e=> ?_),m,n,?_,?_⟩
   ·exact f.pb.1 (j e.1) e.2
   ·obtain⟨A,B,C⟩:=o;rw[A,B,C];exact f.says
   ·have:=q [] (by
     show(x.da++dQ s (x.pos+8) (aT s x.pos)).data.toList=_;rw[ByteArray.data_append,Array.toList_append,yT,f.da];rfl)
    apply oJ;apply Array.toList_inj.1;rw[this];simp[qR]
 | @Bj x y i g h3 j t=>
   intro st f;obtain⟨a,b,c,d⟩:=qV i;have r:dQ s (x.pos+4) 4≠dV:=by rw[g];decide
   obtain⟨P1,m_,P2,m,n,o,q,u⟩:=t _ (f.aed i h3);refine⟨P1,m_,P2,.more ((uA s _).2 ⟨a,b,c,.inr (.inl g)⟩) r ⟨fun _=>(f.Bj i w).1 h3,fun e=> ?_⟩ d ?_,n,o,q,u⟩
   ·rw[g]at e;exact absurd e (by decide)
   ·unfold YW;rw[aC g];exact m
 | @Bl x y i g h3 j k h6 t=>
   intro st f;obtain⟨a,b,c,d⟩:=qV i;have r:dQ s (x.pos+4) 4≠dV:=by rw[g];decide
   have v:dQ s (x.pos+4) 4≠kT:=by rw[g];decide
   have z:=(f.Bl i hK).1 ⟨h3,j,k⟩;obtain⟨P1,m_,P2,m,n,o,q,u⟩:=t _ (f.abP i hK z);have Am:Jc (aA s (x.pos+4))=true:=by rw[CY a g];decide
   refine⟨P1,m_,P2,.more ((uA s _).2 ⟨a,b,c,.inl Am⟩) r ⟨fun e=>absurd e v,fun _=>z⟩ d ?_,n,o,q,u⟩;unfold YW;rw[au v,aC (show dQ s (x.pos+4) 4=CE from g)];exact m
 | @other x y i g h3 j k h6 E t=>intro st f;obtain⟨a,b,c,d⟩:=qV i;have uJ:=f.bW;obtain⟨P1,m_,P2,m,n,o,q,u⟩:=t st ⟨by show(if _ then 2 else _)=0;rw[au (by omega)];exact uJ,f.da,f.pb,f.pl,f.tb,f.tr,f.says⟩;refine⟨P1,m_,P2,.more ((uA s _).2 ⟨a,b,c,.inl (IM i h6)⟩) h3 ⟨fun e=>absurd e j,fun e=>absurd e k⟩ d ?_,n,o,q,u⟩;unfold YW;rw[au j,au (show¬dQ s (x.pos+4) 4=CE from k)];exact m
theorem abR{s:ByteArray}{K D:Nat}(hK:K=0\/K=2\/K=3\/K=4\/K=6)(n:K=3->D<=8){p:Nat}{st:Cs}{P1:Pt}{m_:Cs}(h:o_ s D K p st P1 m_):∀P2,Ends s P1.p P1.left P1.l P2->Rest s P2->∀x:PS,x.pos=p->Lk K x st->∃y,qY s K D x y:=by
 induction h with
 | @here p st o q h3=>
   intro P2 k m x hp g;obtain⟨a,b,c,d⟩:=(uA s _).1 o;subst hp;have f:=IQ b c k.first.1
   have r:K=3->x.pb=true:=fun e=>g.pb.2 (fun u=>h3 ⟨e,u⟩);obtain⟨y,i⟩:=adJ (K:=K) (D:=D) k m ⟨Bv s x.pos,1,x.pl,x.tr,x.pb,x.tb,x.da++dQ s (x.pos+8) (aT s x.pos)⟩ rfl rfl r;exact⟨y,.Bi f q (by have:=g.bW;omega) r i⟩
 | @more p st m_ P o q h3 v F j=>
   intro P2 k m x hp g;obtain⟨a,b,c,d⟩:=(uA s _).1 o;subst hp;have f:=IQ b c v;unfold YW at j;by_cases ql:dQ s (x.pos+4) 4=kT
   ·rw[aC ql]at j;have t:=(g.Bj f n).2 (h3.1 ql);obtain⟨y,i⟩:=j P2 k m _ rfl (g.aed f t);exact⟨y,.Bj f ql t i⟩
   ·by_cases yj:dQ s (x.pos+4) 4=CE
    ·rw[au ql,aC yj]at j;obtain⟨w,z,A⟩:=(g.Bl f hK).2 (h3.2 yj);obtain⟨y,i⟩:=j P2 k m _ rfl (g.abP f hK (h3.2 yj));exact⟨y,.Bl f yj w z A i⟩
    ·rw[au ql,au yj]at j;have uJ:=g.bW;rcases d with d|d|d
     ·obtain⟨B,C,E⟩:=IP a d;obtain⟨y,i⟩:=j P2 k m ⟨Bv s x.pos,if x.bW=1 then 2 else x.bW,x.pl,x.tr,x.pb,x.tb,x.da⟩ rfl ⟨by show(if _ then 2 else _)=0;rw[au (by omega)];exact uJ,g.da,g.pb,g.pl,g.tb,g.tr,g.says⟩;exact⟨y,.other f B C E yj (CX d) i⟩
     ·exact absurd d ql
     ·exact absurd d q
structure Inv(K:Nat)(x:PS):Prop where
 pl:x.pl.size%3=0
 tr:(K=0\/K=2)->x.tb=true->x.tr.size=2*fB K
theorem aeR{s:ByteArray}{K D:Nat}{x y:PS}(h:qY s K D x y):Inv K x->Inv K y:=by
 induction h with
 |done c d h3 e f=>exact id
 |Bi c d h3 e f b=>exact fun h=>b ⟨h.pl,h.tr⟩
 | @Bj x y c d h3 e b=>refine fun h=>b ⟨?_,h.tr⟩;show(dQ s (x.pos+8) (aT s x.pos)).size%3=0;have:=c.2.2.1;rw[gq s (x.pos+8) _ (by omega)];exact h3.2.2.2.2.2.1
 | @Bl x y c d h3 e f h6 b=>
   refine fun h=>b ⟨h.pl,fun g _=> ?_⟩;rcases f with⟨a,_⟩|⟨_,a⟩
   ·omega
   ·exact a.1
 |other c d h3 e f h6 i b=>exact fun h=>b ⟨h.pl,h.tr⟩
def ps0:PS:=⟨33,0,ByteArray.empty,ByteArray.empty,false,false,ByteArray.empty⟩
theorem lk0(K:Nat):Lk K ps0 ⟨[],false,[]⟩:=
 ⟨rfl,rfl,by decide,(fun e=>by cases e),rfl,fun _=>rfl,⟨fun _=>⟨rfl,fun j a=>absurd a (by simp)⟩,fun _=>rfl,fun _ e=>by cases e⟩⟩
end Pr
namespace Pr
open Go.RowKit Rf Cr
open h_ (cut gz aT fV jo qp dX xR lG fB)
def hIn(s:ByteArray):Nat:=if hI s=true then 1 else 0
theorem aeT{s:ByteArray}(h:H0 s):aA (dQ s (8+8) 13) 12=hIn s:=by
 have a:=((NV s).1 h).2.2.2.2.2.2.2.2.2.2;unfold hIn hI;show aA (dQ s 16 13) 12=if decide (aA (dQ s 16 13) 12=1)=true then 1 else 0
 have a:aA (dQ s 16 13) 12<2:=a;by_cases e:aA (dQ s 16 13) 12=1
 ·rw[aC (aZ e),e]
 ·rw[au (by simp[e])];omega
theorem Ve(W H:Nat)(I:Bool)(hW:1<=W)(hH:1<=H):dZ W H I=((dX (if I=true then 1 else 0)).map (xR W H)).filter fun t=>decide (0<t.W)&&decide (0<t.H):=by
 cases I
 ·have a:((dX (if false=true then 1 else 0)).map (xR W H)).filter (fun t=>decide (0<t.W)&&decide (0<t.H))=List.filter (fun t=>decide (0<t.W)&&decide (0<t.H)) [(⟨0,1,0,1,cO W 0 1,cO H 0 1⟩:lC)]:=rfl;rw[a,uw,uw,oL,aC (by simp;omega)];rfl
 ·rfl
theorem abT(K:Nat)(hK:K=0\/K=2\/K=3\/K=4\/K=6):1<=bF K:=by rcases hK with rfl|rfl|rfl|rfl|rfl<;>decide
noncomputable def Ec(s:ByteArray)(st:Cs)(l:List Nat):Option (List Nat):=qo (Iy (hW s) (hH s) (hD s) (hK s) (hI s) st) ((dX (hIn s)).map (xR (hW s) (hH s))) l (List.replicate (4*hW s*hH s) 0)
def R_(s:ByteArray):Nat:=kY (hD s*bF (hK s)) (dZ (hW s) (hH s) (hI s))
theorem IV{s:ByteArray}(h:H0 s)(st:Cs)(t:lC)(j:(dZ (hW s) (hH s) (hI s))[0]?=some t)(l:List Nat)(k:l.length=R_ s):
 (n_ (Iy (hW s) (hH s) (hD s) (hK s) (hI s) st) l (rs0 (hD s*bF (hK s)) (4*hW s*hH s) t)).map (fun r=>r.dM)=Ec s st l:=by
 obtain⟨m,hd,o,c,d⟩:=pR h;have a:1<=hD s:=by unfold jH at hd;omega
 have hb:1<=hD s*bF (hK s):=bT a (abT _ m);refine XU _ (ac2 _ _ _ _ _ _ a) hb _ (Ve _ _ _ c d) _ l rfl rfl (fun f b=> ?_) k;have e:f=t:=by have:(dZ (hW s) (hH s) (hI s))[0]?=some f:=b;rw[j]at this;exact(dB this).symm
 subst e;have g:∀n i,(List.replicate n 0).getD i 0=0:=fun n i=>by rw[ak,nU];split<;>rfl
 exact⟨b,by simp[rs0],by simp[rs0],fun i _=>g _ i,fun i _=>g _ i,fun i _=>by rw[show(rs0 (hD s*bF (hK s)) (4*hW s*hH s) f).rq=List.replicate _ 0 from rfl,g];rfl,rfl⟩
theorem abU{s:ByteArray}(b:H0 s)(h:¬ ∃y,qY s (hK s) (hD s) ps0 y):¬Good s:=by rintro⟨P1,st,t,P2,hw⟩;obtain⟨c,hd,a,-,-⟩:=pR b;exact h (abR c a hw.ahead P2 hw.ends hw.rest ps0 rfl (lk0 _))
theorem Wx{s:ByteArray}{n:Nat}{A B:ByteArray->Prop}(h:Oo s n A)(a:B s):Oo s n B:=⟨h.1,h.2.1,h.2.2.1,h.2.2.2.1,h.2.2.2.2.1,a⟩
structure YM(s:ByteArray)(y:PS)(P1:Pt)(st:Cs)(t:lC)(P2:Pt):Prop where
 ahead:o_ s (hD s) (hK s) 33 ⟨[],false,[]⟩ P1 st
 ends:Ends s P1.p P1.left P1.l P2
 rest:Rest s P2
 says:adF (hK s) st y.pl y.tr y.tb
 da:y.da=qR s P1.p P1.left P1.l
 first:(dZ (hW s) (hH s) (hI s))[0]?=some t
theorem adM{s:ByteArray}(d:H0 s){y:PS}(h:qY s (hK s) (hD s) ps0 y):∃P1 st t P2,YM s y P1 st t P2:=by obtain⟨e,hd,a,b,c⟩:=pR d;obtain⟨P1,st,P2,f,g,h3,i,j⟩:=abQ e a h ⟨[],false,[]⟩ (lk0 _);obtain⟨t,k⟩:=CB (hW s) (hH s) (hI s) b c;exact⟨P1,st,t,P2,f,g,h3,i,j,k⟩
theorem YM.EZ{s:ByteArray}{y:PS}{P1:Pt}{st:Cs}{t:lC}{P2:Pt}(h:YM s y P1 st t P2){a:Pt}{m_:Cs}{b:lC}{c:Pt}(g:Way s a m_ b c):a=P1/\m_=st/\b=t:=by
 obtain⟨d,e⟩:=h.ahead.EZ g.ahead;refine⟨d,e,?_⟩;have:=h.first
 rw[g.first]at this;exact dB this
theorem aeU{s:ByteArray}{y:PS}{P1:Pt}{st:Cs}{t:lC}{P2:Pt}(h:YM s y P1 st t P2)(a:¬Oo y.da (R_ s) (fun _=>True)):¬Good s:=by rintro⟨b,m_,c,d,hw⟩;obtain⟨rfl,rfl,rfl⟩:=h.EZ hw;refine a ?_;rw[h.da];exact Wx hw.rows.1 trivial
theorem aeV{s:ByteArray}(d:H0 s){y:PS}{P1:Pt}{st:Cs}{t:lC}{P2:Pt}(h:YM s y P1 st t P2)(e:Ec s st (qP (wU y.da (R_ s)).out)=none):¬Good s:=by
 rintro⟨a,m_,c,j,hw⟩;obtain⟨rfl,rfl,rfl⟩:=h.EZ hw;obtain⟨g,f,i⟩:=hw.rows;have:=IV d m_ c h.first (qP (wU y.da (R_ s)).out) (by rw[Fj,h.da];exact g.2.2.1)
 rw[e,h.da]at this;have b:n_ (Iy (hW s) (hH s) (hD s) (hK s) (hI s) m_) (qP (wU (qR s a.p a.left a.l) (R_ s)).out) (rs0 (hD s*bF (hK s)) (4*hW s*hH s) c)=some f:=i;rw[b]at this;cases this
theorem adN{s:ByteArray}(c:H0 s){y:PS}{P1:Pt}{st:Cs}{t:lC}{P2:Pt}(h:YM s y P1 st t P2)(a:Oo y.da (R_ s) (fun _=>True)){dM:List Nat}(d:Ec s st (qP (wU y.da (R_ s)).out)=some dM):
 ∃f,Way s P1 st t P2/\NU s P1 st t=some f/\f.dM=dM:=by
 have:=IV c st t h.first (qP (wU y.da (R_ s)).out) (by rw[Fj];exact a.2.2.1)
 rw[d]at this;obtain⟨f,b,he⟩:=Option.map_eq_some_iff.1 this;rw[h.da]at b a;exact⟨f,⟨c,h.ahead,h.first,⟨Wx a ⟨P2,h.ends⟩,f,b⟩,h.ends,h.rest⟩,b,he⟩
end Pr
namespace Pr
open Go.RowKit Rf Cr
open h_ (cut gz aT fV jo)
def xh:ay:= .agg #[.int .i64 0,.int .i64 0,.slice none 0 0]
def pU:Array ay:= #[.int .i64 0,.int .i64 0,.slice none 0 0]
def afv(S:Src)(cb:Nat)(s:ByteArray)(bM:Nat)(lb:bP)(b:Prop)(w:af)(e:Ending)(w':af):Prop:=
 (∃P1 st t P2 f gp,Way s P1 st t P2/\hW s*hH s<=bM/\b/\NU s P1 st t=some f/\e= .returned (.tuple #[.agg #[.int .i64 (hW s:Int),.int .i64 (hH s:Int),.slice (some ⟨gp,0,none⟩) (4*hW s*hH s) (4*hW s*hH s)],.nilIface])/\iC w' gp f.dM/\w.heap.size<=gp/\oC S cb w'/\PE S.base w w')\/
 (((H0 s/\bM<hW s*hH s)/\∃w0,S.K w0 s 33)/\e= .returned (.tuple #[xh,.iface 362 (.pointer (some lb))])/\oC S cb w'/\PE S.base w w')\/
 ((∃T a,e= .returned (.tuple #[xh,.iface T (.pointer (some a))])/\dO S w' T a (¬H0 s\/(hW s*hH s<=bM/\¬Good s)))/\oC S cb w'/\PE S.base w w')
theorem Ae{S:Src}{cb:Nat}{w w':af}(h:Fr (jP S cb) w w')(a:oC S cb w):PE S.base w w':=by
 have d:=a.lt;have hb:=a.base;refine⟨h.os,h.tape,h.output,h.size,fun k g=>h.block k (by omega) (fun e=> ?_),fun k cur T f e b=>h.block k (ai e) (fun c=> ?_)⟩
 ·rcases e with e|e
  ·have:=a.ok.low k e;omega
  ·omega
 ·exact a.ne e (QC b) c
theorem qW{S:Src}{cb:Nat}{w X:af}(l:PE S.base w X)(hI:X.heap[w.heap.size]?=some (.cells #[.int .i64 0,.int .i64 0,.slice none 0 0] 32 (0,0)))(i:oC S cb X)(b:S.base<=w.heap.size)(v0 v1 v2:ay):
 PE S.base w (((X.setCell ⟨w.heap.size,0,none⟩ v0).setCell ⟨w.heap.size,1,none⟩ v1).setCell ⟨w.heap.size,2,none⟩ v2)/\oC S cb (((X.setCell ⟨w.heap.size,0,none⟩ v0).setCell ⟨w.heap.size,1,none⟩ v1).setCell ⟨w.heap.size,2,none⟩ v2)/\
 (∀T a Q,dO S X T a Q->dO S (((X.setCell ⟨w.heap.size,0,none⟩ v0).setCell ⟨w.heap.size,1,none⟩ v1).setCell ⟨w.heap.size,2,none⟩ v2) T a Q)/\∀k,k≠w.heap.size->(((X.setCell ⟨w.heap.size,0,none⟩ v0).setCell ⟨w.heap.size,1,none⟩ v1).setCell ⟨w.heap.size,2,none⟩ v2).heap[k]?=X.heap[k]?:=by
 have c:∀k,k≠w.heap.size->(((X.setCell ⟨w.heap.size,0,none⟩ v0).setCell ⟨w.heap.size,1,none⟩ v1).setCell ⟨w.heap.size,2,none⟩ v2).heap[k]?=X.heap[k]?:=fun k d=>(aB _ _ d).trans ((aB _ _ d).trans (aB _ _ d));refine⟨((l.eF _ _ ⟨ag _,b⟩ _).eF _ _ ⟨ag _,b⟩ _).eF _ _ ⟨ag _,b⟩ _,i.over (fun k g=>c k (fun e=> ?_)),fun T a Q h=>h.over (fun k cur f e=>c k (fun m=>by rw[m,hI]at e;simp at e)),c⟩;rcases g with j|j
 ·exact i.ne hI (by decide) (e▸j)
 ·omega
theorem abV(S:Src)(cb:Nat)(s:ByteArray)(w:af)(bM:Nat)(eb lb:bP)(name:ByteArray)(l:List UInt8)(Dn:Prop)(b8:Hz S Dn)(h:CR S cb s w 0 name 0 l)(hs:jI w eb S.fb lb S.base)(hO:jk w)(b9:mG w)(d9:bM<=1048576)(e0:s.size<=140737488354000):
 aF prog 88 #[.pointer (some ⟨cb,0,none⟩),.int .i64 (bM:Int)] w (afv S cb s bM lb Dn w):=by
 have o:=h.e.lt.2;have g6:=h.ok.ng;obtain⟨b4,g9⟩:∃b,b=w.heap.size:=⟨_,rfl⟩;have M:aJ w.heap.size w (w.alloc (.cells pU 32)):=(aP _ _).alloc (ag _) _;have c3:(w.alloc (.cells pU 32)).heap[w.heap.size]?=some (.cells pU 32 (0,0)):=aO w _;have a5:=h.grow (fun k n=>M.block k n);have c4:=hs.over (fun k n=>M.block k (by omega));have c5:PE S.base w (w.alloc (.cells pU 32)):=PE.kJ M o;have N:ah _:=Np S cb s _ bM eb lb name l a5 c4 d9;have q:ah _:=a5.e;have r:ah _:=c3;have O:ah _:=c5;have HO:ah _:=hO;have e6:ah _:=b9;have HS:ah _:=hs;have e7:ah _:=b8;clear h hs hO b9 b8 M c3 a5 c4 c5;unfold pU at*;go_enter func88,ntmps88
 go_wp2_with fail
 refine bz N.out ?_;rintro e w1 (⟨q0,q1,rfl,Z,A⟩|⟨q0,rfl,Z,A⟩|⟨⟨T,a,rfl,q1⟩,Z,A⟩)
 ·have c6:aeA s=Value.agg #[.int .i64 (hW s:Int),.int .i64 (hH s:Int),.int .i64 (hD s:Int),.int .u8 (hK s:Int),.bool (hI s)]:=rfl;rw[c6];clear c6;have d:w1.heap[w.heap.size]?=some (.cells #[.int .i64 0,.int .i64 0,.slice none 0 0] 32 (0,0)):=((Ae A q.out).other _ _ _ _ r.out (by decide)).trans r.out;have a6:PE S.base w w1:=PE.trans O.out (Ae A q.out);have hf:=pR q0;have e8:w.heap.size<w1.heap.size:=ai d;have B:aJ w1.heap.size w1 (w1.alloc (.cells #[.int .i64 (hW s:Int),.int .i64 (hH s:Int),.int .i64 (hD s:Int),.int .u8 (hK s:Int),.bool (hI s)] 221)):=(aP _ _).alloc (ag _) _;have a7:=Z.grow (fun k n=>B.block k n);have a0:jI (w1.alloc (.cells #[.int .i64 (hW s:Int),.int .i64 (hH s:Int),.int .i64 (hD s:Int),.int .u8 (hK s:Int),.bool (hI s)] 221)) eb S.fb lb S.base:=jI.over HS.out (fun k n=>(B.block k (by omega)).trans (a6.low k n));have P:ah _:=EY S cb s _ eb lb 33 0 mP _ a7 a0 (hW s) (hH s) (hD s) (hK s) (hI s) hf.2.1 (by omega) hf.2.2.1;have a8:ah _:=q0;have D:ah (hW s*hH s<=bM):=(q1:_<=_);have E:ah _:=a7.e;have HF:ah _:=hf;have c7:(w1.alloc (.cells #[.int .i64 (hW s:Int),.int .i64 (hH s:Int),.int .i64 (hD s:Int),.int .u8 (hK s:Int),.bool (hI s)] 221)).heap[w1.heap.size]?=some (.cells #[.int .i64 (hW s:Int),.int .i64 (hH s:Int),.int .i64 (hD s:Int),.int .u8 (hK s:Int),.bool (hI s)] 221 (0,0)):=aO w1 _;have c8:ah _:=c7;have c9:ah (PE S.base w (w1.alloc (.cells #[.int .i64 (hW s:Int),.int .i64 (hH s:Int),.int .i64 (hD s:Int),.int .u8 (hK s:Int),.bool (hI s)] 221))):=(a6.trans (PE.kJ B (by omega)):PE _ _ _);have Q:ah _:=(B.block _ e8).trans d;clear q0 q1 Z A d a6 hf a7 a0 B c7 N q r O;unfold qX at P;go_wp2_with fail
  refine bz P.out ?_;rintro e w3 (⟨P1,st,kb,r0,rfl,r1,r2,r3⟩|⟨⟨v,T,a,rfl,r1⟩,r2,r3⟩)
  ·have d0:=r0.Bi;rw[d0]at r1;clear d0;have F:w3.heap[w.heap.size]?=some (.cells #[.int .i64 0,.int .i64 0,.slice none 0 0] 32 (0,0)):=((Ae r3 E.out).other _ _ _ _ Q.out (by decide)).trans Q.out;have y:=((Ae r3 E.out).other _ _ _ _ c8.out (by decide)).trans c8.out;have u:PE S.base w w3:=PE.trans c9.out (Ae r3 E.out);have a1:bF (hK s)<=4:=by rcases HF.out.1 with e|e|e|e|e<;>rw[e]<;>decide
   have d1:st.C.length<=4:=r0.clear a1 (by simp);obtain⟨t,ht⟩:=CB (hW s) (hH s) (hI s) HF.out.2.2.2.1 HF.out.2.2.2.2;have e9:=D.out;have R:ah _:=NT S cb s w3 eb lb P1.p P1.left P1.l r1 (jI.over HS.out (fun k n=>u.low k n)) kb _ (hW s) (hH s) (hD s) (hK s) (hI s) st r2 (by simp;omega) (jk.over HO.out (u.low _ (by omega))) (fun i hi=>(aV (u.low _ (by omega))).trans (e6.out i hi)) HF.out.1 HF.out.2.1 d1 HF.out.2.2.2.1 HF.out.2.2.2.2 (by omega) t ht e0;have f0:w3.cell? ⟨w1.heap.size,0,none⟩=some (.int .i64 (hW s:Int)):=by simpa using(cell_of y 0).1
   have f1:w3.cell? ⟨w1.heap.size,1,none⟩=some (.int .i64 (hH s:Int)):=by simpa using(cell_of y 1).1
   have f2:w3.cell? ⟨w1.heap.size,2,none⟩=some (.int .i64 (hD s:Int)):=by simpa using(cell_of y 2).1
   have f3:w3.cell? ⟨w1.heap.size,3,none⟩=some (.int .u8 (hK s:Int)):=by simpa using(cell_of y 3).1
   have f4:w3.cell? ⟨w1.heap.size,4,none⟩=some (.bool (hI s)):=by simpa using(cell_of y 4).1
   have U:ah _:=F;have d2:ah _:=u;have a9:ah _:=r0;have HT:ah _:=ht;have h0:w.heap.size<w3.heap.size:=ai F;clear r0 r1 r2 r3 F y u a1 d1 ht e9 P;unfold qX at R;go_wp2_with fail
   refine bz R.out ?_;rintro e m (⟨gp,f,v0,v1,rfl,v2,v3,v4,⟨P2,v5,v6⟩,v7⟩|⟨⟨T,a,rfl,v1⟩,v2,v3⟩)
   ·have z:∀k,k<m.heap.size->(m.alloc (.cells #[.int .i64 (hW s:Int),.int .i64 (hH s:Int),.slice (some ⟨gp,0,none⟩) (4*hW s*hH s) (4*hW s*hH s)] 32)).heap[k]?=m.heap[k]?:=fun k n=>aj _ _ k n;have g0:=v7.size;have V:(m.alloc (.cells #[.int .i64 (hW s:Int),.int .i64 (hH s:Int),.slice (some ⟨gp,0,none⟩) (4*hW s*hH s) (4*hW s*hH s)] 32)).heap[w.heap.size]?=some (.cells #[.int .i64 0,.int .i64 0,.slice none 0 0] 32 (0,0)):=(z _ (by omega)).trans ((v7.other _ _ _ _ U.out (by decide)).trans U.out);have d4:(m.alloc (.cells #[.int .i64 (hW s:Int),.int .i64 (hH s:Int),.slice (some ⟨gp,0,none⟩) (4*hW s*hH s) (4*hW s*hH s)] 32)).heap[m.heap.size]?=some (.cells #[.int .i64 (hW s:Int),.int .i64 (hH s:Int),.slice (some ⟨gp,0,none⟩) (4*hW s*hH s) (4*hW s*hH s)] 32 (0,0)):=aO m _;have W:PE S.base w (m.alloc (.cells #[.int .i64 (hW s:Int),.int .i64 (hH s:Int),.slice (some ⟨gp,0,none⟩) (4*hW s*hH s) (4*hW s*hH s)] 32)):=(PE.trans d2.out v7).trans (PE.alloc _ _ _ (by omega));have b0:=v6.grow z;have a2:iC (m.alloc (.cells #[.int .i64 (hW s:Int),.int .i64 (hH s:Int),.slice (some ⟨gp,0,none⟩) (4*hW s*hH s) (4*hW s*hH s)] 32)) gp f.dM:=(z gp (ai v2)).trans v2;have b1:ah _:=NG S Dn e7.out cb s _ P2.p P2.left P2.name P2.l b0;have X:ah _:=V;have d5:ah _:=d4;have d6:ah _:=W;have a3:ah _:=a2;have G:ah _:=b0.e;have HV:ah _:=(⟨v0,v1,v4,v5⟩:_/\_/\_/\_);have g5:w.heap.size<gp:=by omega
    clear v0 v1 v2 v4 v5 v6 v7 z V d4 W b0 a2 R f0 f1 f2 f3 f4;go_wp2_with fail
    refine bz b1.out ?_;rintro e x (⟨u0,rfl,u1,u2⟩|⟨⟨T,a,rfl,u0⟩,u1,u2⟩)
    ·have b2:x.heap[w.heap.size]?=some (.cells #[.int .i64 0,.int .i64 0,.slice none 0 0] 32 (0,0)):=((Ae u2 G.out).other _ _ _ _ X.out (by decide)).trans X.out;have Y:=((Ae u2 G.out).other _ _ _ _ d5.out (by decide)).trans d5.out;have b3:PE S.base w x:=PE.trans d6.out (Ae u2 G.out);have a4:iC x gp f.dM:=(u2.block gp (ai a3.out) HV.out.2.2.1).trans a3.out;have i0:x.cell? ⟨m.heap.size,0,none⟩=some (.int .i64 (hW s:Int)):=by simpa using(cell_of Y 0).1
     have i1:x.cell? ⟨m.heap.size,1,none⟩=some (.int .i64 (hH s:Int)):=by simpa using(cell_of Y 1).1
     have i2:x.cell? ⟨m.heap.size,2,none⟩=some (.slice (some ⟨gp,0,none⟩) (4*hW s*hH s) (4*hW s*hH s)):=by simpa using(cell_of Y 2).1
     have d7:ah _:=a4;have d8:ah _:=u0;clear u0 u2 Y a4 b1;have c:=b2;have H:x.cell? ⟨w.heap.size,0,none⟩=some (.int .i64 0):=by simpa using(cell_of c 0).1
     have I:x.cell? ⟨w.heap.size,1,none⟩=some (.int .i64 0):=by simpa using(cell_of c 1).1
     have J:x.cell? ⟨w.heap.size,2,none⟩=some (.slice none 0 0):=by simpa using(cell_of c 2).1
     have y0:=(cell_of c 0).2;have y1:=(cell_of c 1).2;have y2:=(cell_of c 2).2;have j:ah _:=qW (S:=S) (cb:=cb) b3 c u1 o (.int .i64 (hW s:Int)) (.int .i64 (hH s:Int)) (.slice (some ⟨gp,0,none⟩) (4*hW s*hH s) (4*hW s*hH s));clear c;go_wp2_with fail
     refine aI (v:= .tuple #[.agg #[.int .i64 (hW s:Int),.int .i64 (hH s:Int),.slice (some ⟨gp,0,none⟩) (4*hW s*hH s) (4*hW s*hH s)],.nilIface]) (by simp[results,results88,go_sem,H,I,J]) rfl ?_;obtain⟨K,L,_,g4⟩:=j.out;obtain⟨v0,v1,v4,v5⟩:=HV.out;exact .inl ⟨P1,st,t,P2,f,gp,⟨a8.out,a9.out,HT.out,v1,v5,d8.out.1⟩,D.out,d8.out.2,v0,rfl,(g4 gp (by omega)).trans d7.out,by omega,L,K⟩
    ·have b2:x.heap[w.heap.size]?=some (.cells #[.int .i64 0,.int .i64 0,.slice none 0 0] 32 (0,0)):=((Ae u2 G.out).other _ _ _ _ X.out (by decide)).trans X.out;have b3:PE S.base w x:=PE.trans d6.out (Ae u2 G.out);have f5:ah _:=u0;clear u0 u2 b1;have c:=b2;have H:x.cell? ⟨w.heap.size,0,none⟩=some (.int .i64 0):=by simpa using(cell_of c 0).1
     have I:x.cell? ⟨w.heap.size,1,none⟩=some (.int .i64 0):=by simpa using(cell_of c 1).1
     have J:x.cell? ⟨w.heap.size,2,none⟩=some (.slice none 0 0):=by simpa using(cell_of c 2).1
     have y0:=(cell_of c 0).2;have y1:=(cell_of c 1).2;have y2:=(cell_of c 2).2;have j:ah _:=qW (S:=S) (cb:=cb) b3 c u1 o (.int .i64 0) (.int .i64 0) (.slice none 0 0);clear c;go_wp2_with fail
     refine aI (v:= .tuple #[.agg #[.int .i64 0,.int .i64 0,.slice none 0 0],.iface T (.pointer (some a))]) (by simp[results,results88,go_sem,H,I,J]) rfl ?_;obtain⟨K,L,g3,_⟩:=j.out;exact .inr (.inr ⟨⟨T,a,rfl,g3 _ _ _ (dO.imp f5.out (fun hn=> .inr ⟨D.out,fun⟨Q1,m_,t',Q2,g⟩=>by obtain⟨e1,e2⟩:=o_.EZ a9.out g.ahead;subst e1 e2;have e5:=Ends.EZ HV.out.2.2.2 g.ends;subst e5;exact hn g.rest⟩))⟩,L,K⟩)
   ·have V:(m.alloc (.cells #[.int .i64 0,.int .i64 0,.slice none 0 0] 32)).heap[w.heap.size]?=some (.cells #[.int .i64 0,.int .i64 0,.slice none 0 0] 32 (0,0)):=(aj _ _ _ (by have:=v3.size;omega)).trans ((v3.other _ _ _ _ U.out (by decide)).trans U.out);have W:PE S.base w (m.alloc (.cells #[.int .i64 0,.int .i64 0,.slice none 0 0] 32)):=(PE.trans d2.out v3).trans (PE.alloc _ _ _ (by have:=v3.size;omega));have f6:oC S cb (m.alloc (.cells #[.int .i64 0,.int .i64 0,.slice none 0 0] 32)):=v2.grow (fun k n=>aj _ _ k n);have f7:ah _:=dO.alloc v1 (.cells #[.int .i64 0,.int .i64 0,.slice none 0 0] 32);clear v1 v2 v3 R;have c:=V;have H:(m.alloc (.cells #[.int .i64 0,.int .i64 0,.slice none 0 0] 32)).cell? ⟨w.heap.size,0,none⟩=some (.int .i64 0):=by simpa using(cell_of c 0).1
    have I:(m.alloc (.cells #[.int .i64 0,.int .i64 0,.slice none 0 0] 32)).cell? ⟨w.heap.size,1,none⟩=some (.int .i64 0):=by simpa using(cell_of c 1).1
    have J:(m.alloc (.cells #[.int .i64 0,.int .i64 0,.slice none 0 0] 32)).cell? ⟨w.heap.size,2,none⟩=some (.slice none 0 0):=by simpa using(cell_of c 2).1
    have y0:=(cell_of c 0).2;have y1:=(cell_of c 1).2;have y2:=(cell_of c 2).2;have j:ah _:=qW (S:=S) (cb:=cb) W c f6 o (.int .i64 0) (.int .i64 0) (.slice none 0 0);clear c;go_wp2_with fail
    refine aI (v:= .tuple #[.agg #[.int .i64 0,.int .i64 0,.slice none 0 0],.iface T (.pointer (some a))]) (by simp[results,results88,go_sem,H,I,J]) rfl ?_;obtain⟨K,L,g3,_⟩:=j.out;exact .inr (.inr ⟨⟨T,a,rfl,g3 _ _ _ (dO.imp f7.out (fun hn=> .inr ⟨D.out,fun⟨Q1,m_,t',Q2,g⟩=>by
     obtain⟨e1,e2⟩:=o_.EZ a9.out g.ahead;have e3:t'=t:=by
      have e4:=g.first
      rw[HT.out]at e4;exact(dB e4).symm
     subst e1 e2 e3;exact hn g.rows⟩))⟩,L,K⟩)
  ·have F:w3.heap[w.heap.size]?=some (.cells #[.int .i64 0,.int .i64 0,.slice none 0 0] 32 (0,0)):=((Ae r3 E.out).other _ _ _ _ Q.out (by decide)).trans Q.out;have u:PE S.base w w3:=PE.trans c9.out (Ae r3 E.out);have f8:ah _:=r1;clear r1 r3 P;have c:=F;have H:w3.cell? ⟨w.heap.size,0,none⟩=some (.int .i64 0):=by simpa using(cell_of c 0).1
   have I:w3.cell? ⟨w.heap.size,1,none⟩=some (.int .i64 0):=by simpa using(cell_of c 1).1
   have J:w3.cell? ⟨w.heap.size,2,none⟩=some (.slice none 0 0):=by simpa using(cell_of c 2).1
   have y0:=(cell_of c 0).2;have y1:=(cell_of c 1).2;have y2:=(cell_of c 2).2;have j:ah _:=qW (S:=S) (cb:=cb) u c r2 o (.int .i64 0) (.int .i64 0) (.slice none 0 0);clear c;go_wp2_with fail
   refine aI (v:= .tuple #[.agg #[.int .i64 0,.int .i64 0,.slice none 0 0],.iface T (.pointer (some a))]) (by simp[results,results88,go_sem,H,I,J]) rfl ?_;obtain⟨K,L,g3,_⟩:=j.out;exact .inr (.inr ⟨⟨T,a,rfl,g3 _ _ _ (dO.imp f8.out (fun hn=> .inr ⟨D.out,fun⟨Q1,m_,t',Q2,g⟩=>hn _ _ g.ahead⟩))⟩,L,K⟩)
 ·have z:∀k,k<w1.heap.size->(w1.alloc (.cells #[.int .i64 0,.int .i64 0,.int .i64 0,.int .u8 0,.bool false] 221)).heap[k]?=w1.heap[k]?:=fun k n=>aj _ _ k n;have d:w1.heap[w.heap.size]?=some (.cells #[.int .i64 0,.int .i64 0,.slice none 0 0] 32 (0,0)):=((Ae A q.out).other _ _ _ _ r.out (by decide)).trans r.out;have b5:=(z _ (ai d)).trans d;have b6:PE S.base w (w1.alloc (.cells #[.int .i64 0,.int .i64 0,.int .i64 0,.int .u8 0,.bool false] 221)):=(PE.trans O.out (Ae A q.out)).trans (PE.alloc _ _ _ (by have:=ai d;omega));have b7:=Z.grow z;have a8:ah _:=q0;clear q0 Z A N z d;rw[show qX 0 0 0 0 false=Value.agg #[.int .i64 0,.int .i64 0,.int .i64 0,.int .u8 0,.bool false]from rfl];have c:=b5;have H:(w1.alloc (.cells #[.int .i64 0,.int .i64 0,.int .i64 0,.int .u8 0,.bool false] 221)).cell? ⟨w.heap.size,0,none⟩=some (.int .i64 0):=by simpa using(cell_of c 0).1
  have I:(w1.alloc (.cells #[.int .i64 0,.int .i64 0,.int .i64 0,.int .u8 0,.bool false] 221)).cell? ⟨w.heap.size,1,none⟩=some (.int .i64 0):=by simpa using(cell_of c 1).1
  have J:(w1.alloc (.cells #[.int .i64 0,.int .i64 0,.int .i64 0,.int .u8 0,.bool false] 221)).cell? ⟨w.heap.size,2,none⟩=some (.slice none 0 0):=by simpa using(cell_of c 2).1
  have y0:=(cell_of c 0).2;have y1:=(cell_of c 1).2;have y2:=(cell_of c 2).2;have j:ah _:=qW (S:=S) (cb:=cb) b6 c b7 o (.int .i64 0) (.int .i64 0) (.slice none 0 0);clear c;go_wp2_with fail
  refine aI (v:= .tuple #[.agg #[.int .i64 0,.int .i64 0,.slice none 0 0],.iface 362 (.pointer (some lb))]) (by simp[results,results88,go_sem,H,I,J]) rfl ?_;obtain⟨K,L,_,_⟩:=j.out;exact .inr (.inl ⟨a8.out,rfl,L,K⟩)
 ·have z:∀k,k<w1.heap.size->(w1.alloc (.cells #[.int .i64 0,.int .i64 0,.int .i64 0,.int .u8 0,.bool false] 221)).heap[k]?=w1.heap[k]?:=fun k n=>aj _ _ k n;have d:w1.heap[w.heap.size]?=some (.cells #[.int .i64 0,.int .i64 0,.slice none 0 0] 32 (0,0)):=((Ae A q.out).other _ _ _ _ r.out (by decide)).trans r.out;have b5:=(z _ (ai d)).trans d;have b6:PE S.base w (w1.alloc (.cells #[.int .i64 0,.int .i64 0,.int .i64 0,.int .u8 0,.bool false] 221)):=(PE.trans O.out (Ae A q.out)).trans (PE.alloc _ _ _ (by have:=ai d;omega));have b7:=Z.grow z;have f9:ah _:=dO.alloc q1 (.cells #[.int .i64 0,.int .i64 0,.int .i64 0,.int .u8 0,.bool false] 221);clear q1 Z A N z d;rw[show qX 0 0 0 0 false=Value.agg #[.int .i64 0,.int .i64 0,.int .i64 0,.int .u8 0,.bool false]from rfl];have c:=b5;have H:(w1.alloc (.cells #[.int .i64 0,.int .i64 0,.int .i64 0,.int .u8 0,.bool false] 221)).cell? ⟨w.heap.size,0,none⟩=some (.int .i64 0):=by simpa using(cell_of c 0).1
  have I:(w1.alloc (.cells #[.int .i64 0,.int .i64 0,.int .i64 0,.int .u8 0,.bool false] 221)).cell? ⟨w.heap.size,1,none⟩=some (.int .i64 0):=by simpa using(cell_of c 1).1
  have J:(w1.alloc (.cells #[.int .i64 0,.int .i64 0,.int .i64 0,.int .u8 0,.bool false] 221)).cell? ⟨w.heap.size,2,none⟩=some (.slice none 0 0):=by simpa using(cell_of c 2).1
  have y0:=(cell_of c 0).2;have y1:=(cell_of c 1).2;have y2:=(cell_of c 2).2;have j:ah _:=qW (S:=S) (cb:=cb) b6 c b7 o (.int .i64 0) (.int .i64 0) (.slice none 0 0);clear c;go_wp2_with fail
  refine aI (v:= .tuple #[.agg #[.int .i64 0,.int .i64 0,.slice none 0 0],.iface T (.pointer (some a))]) (by simp[results,results88,go_sem,H,I,J]) rfl ?_;obtain⟨K,L,g3,_⟩:=j.out;exact .inr (.inr ⟨⟨T,a,rfl,g3 _ _ _ (dO.imp f9.out (fun hn=> .inl hn))⟩,L,K⟩)
theorem Oa(S:Src)(w:af):
 aF prog 87 #[.iface S.T (.pointer (some S.a))] w fun e w'=>e= .returned (.pointer (some ⟨w.heap.size,0,none⟩))/\w'=w.alloc (Pz S (-1) ByteArray.empty 0 0):=by
 unfold Pz;generalize S.T=T;generalize S.a=a;go_enter func87,ntmps87
 go_wp2_with fail
 go_ret;exact⟨rfl,rfl⟩
theorem ES(S:Src)(cb:Nat)(w:af)(h:oC S cb w):
 aF prog 89 #[.pointer (some ⟨cb,0,none⟩)] w fun e w'=> ∃n:Int,e= .returned (.int .i64 n)/\w'=w:=by
 obtain⟨num,name,left,sum,hb⟩:=h.nN;have c1:w.cell? ⟨cb,1,none⟩=some (.int .i64 num):=by simpa [Pz]using(cell_of hb 1).1
 clear h hb;go_enter func89,ntmps89
 go_wp2_with fail
 go_ret;exact⟨num,rfl,rfl⟩
def aee(S:Src)(s:ByteArray)(bM:Nat)(lb:bP)(b:Prop)(w:af)(e:Ending)(w':af):Prop:=
 (∃P1 st t P2 f gp,Way s P1 st t P2/\hW s*hH s<=bM/\b/\NU s P1 st t=some f/\e= .returned (.tuple #[.agg #[.int .i64 (hW s:Int),.int .i64 (hH s:Int),.slice (some ⟨gp,0,none⟩) (4*hW s*hH s) (4*hW s*hH s)],.nilIface])/\iC w' gp f.dM/\w.heap.size<=gp/\PE S.base w w')\/
 (((H0 s/\bM<hW s*hH s)/\∃w0,S.K w0 s 33)/\(∃T a,e= .returned (.tuple #[xh,.iface T (.pointer (some a))])/\KF lb w' T a)/\PE S.base w w')\/
 ((∃T a,e= .returned (.tuple #[xh,.iface T (.pointer (some a))])/\dO S w' T a (¬H0 s\/(hW s*hH s<=bM/\¬Good s)))/\PE S.base w w')
theorem abW(S:Src)(j:S.Ok)(s:ByteArray)(w:af)(bM:Nat)(eb lb:bP)(Dn:Prop)(Y:Hz S Dn)(y:S.K w s 0)(hs:jI w eb S.fb lb S.base)(hT:Tab w)(hO:jk w)(Z:mG w)(a8:bM<=1048576)(a9:s.size<=140737488354000):
 aF prog 50 #[.iface S.T (.pointer (some S.a)),.int .i64 (bM:Int)] w (aee S s bM lb Dn w):=by
 have P:=j.hb (j.ke y);have b0:=j.ng;have l:aJ w.heap.size w ((w.alloc (.cells pU 32)).alloc (Pz S (-1) ByteArray.empty 0 0)):=((aP _ _).alloc (ag _) _).alloc (by simp) _;have a0:((w.alloc (.cells pU 32)).alloc (Pz S (-1) ByteArray.empty 0 0)).heap[w.heap.size]?=some (.cells pU 32 (0,0)):=(aj _ _ _ (by simp)).trans (aO w _);have a1:((w.alloc (.cells pU 32)).alloc (Pz S (-1) ByteArray.empty 0 0)).heap[w.heap.size+1]?=some (Pz S (-1) ByteArray.empty 0 (jo [])):=by
  have:=aO (w.alloc (.cells pU 32)) (Pz S (-1) ByteArray.empty 0 0);have e:(w.alloc (.cells pU 32)).heap.size=w.heap.size+1:=by simp
  rw[e]at this;exact this
 have V:∀k,S.F k->k<w.heap.size:=fun k e=>j.lt (j.ke y) e
 have a2:CR S (w.heap.size+1) s ((w.alloc (.cells pU 32)).alloc (Pz S (-1) ByteArray.empty 0 0)) 0 ByteArray.empty 0 []:=
  ⟨⟨-1,a1⟩,j.iJ y (fun k e=>l.block k (by rcases e with e|e;exact V k e;omega)),aU _,j,by omega,fun e=>by have:=V _ e;omega,xB hT b0 (fun k e=>l.block k (by omega)),by omega⟩
 have A:ah _:=abV S (w.heap.size+1) s _ bM eb lb ByteArray.empty [] Dn Y a2 (hs.over (fun k e=>l.block k (by omega))) (hO.over (l.block _ (by omega))) (fun i hi=>(aV (l.block _ (by omega))).trans (Z i hi)) a8 a9;have a3:ah _:=Oa S (w.alloc (.cells pU 32));have o:ah _:=a0;have Q:ah (PE S.base w ((w.alloc (.cells pU 32)).alloc (Pz S (-1) ByteArray.empty 0 0))):=(PE.kJ l P:PE _ _ _);clear y hs hT hO Z Y l a0 a1 V a2;unfold pU at*;go_enter func50,ntmps50
 go_wp2_with fail
 refine bz a3.out ?_;rintro e w1 ⟨rfl,W⟩;rw[<-W]at A o Q;have U:(w.alloc (.cells #[.int .i64 0,.int .i64 0,.slice none 0 0] 32)).heap.size=w.heap.size+1:=by simp
 have a4:w1.heap.size=w.heap.size+2:=by rw[W];simp
 have R:ah _:=a4;clear W a3 a4;simp only[U];clear U;go_wp2_with fail
 refine bz A.out ?_;rintro e w2 (⟨P1,st,t,P2,f,gp,N,O,z,q4,rfl,q5,q6,q7,q8⟩|⟨N,rfl,O,z⟩|⟨⟨T,a,rfl,N⟩,O,z⟩)
 ·have c:=(q8.other _ _ _ _ o.out (by decide)).trans o.out;have g:=ai c;have b:(w2.alloc (.cells #[.int .i64 (hW s:Int),.int .i64 (hH s:Int),.slice (some ⟨gp,0,none⟩) (4*hW s*hH s) (4*hW s*hH s)] 32)).heap[w.heap.size]?=some (.cells #[.int .i64 0,.int .i64 0,.slice none 0 0] 32 (0,0)):=(aj _ _ _ g).trans c;have a5:PE S.base w (w2.alloc (.cells #[.int .i64 (hW s:Int),.int .i64 (hH s:Int),.slice (some ⟨gp,0,none⟩) (4*hW s*hH s) (4*hW s*hH s)] 32)):=(PE.trans Q.out q8).trans (PE.alloc _ _ _ (by have:=q8.size;have:=R.out;omega));have a6:oC S (w.heap.size+1) (w2.alloc (.cells #[.int .i64 (hW s:Int),.int .i64 (hH s:Int),.slice (some ⟨gp,0,none⟩) (4*hW s*hH s) (4*hW s*hH s)] 32)):=q7.grow (fun k y=>aj _ _ k y);have B:ah _:=qW (S:=S) (cb:=w.heap.size+1) a5 b a6 P (.int .i64 (hW s:Int)) (.int .i64 (hH s:Int)) (.slice (some ⟨gp,0,none⟩) (4*hW s*hH s) (4*hW s*hH s));have b1:ah _:=(aj w2 (.cells #[.int .i64 (hW s:Int),.int .i64 (hH s:Int),.slice (some ⟨gp,0,none⟩) (4*hW s*hH s) (4*hW s*hH s)] 32) gp (ai q5)).trans q5;have HQ:ah _:=(⟨N,O,z,q4⟩:_/\_/\_/\_);have HG:ah (w.heap.size<gp):=(by have:=R.out;omega:_<_);have z0:(w2.alloc (.cells #[.int .i64 (hW s:Int),.int .i64 (hH s:Int),.slice (some ⟨gp,0,none⟩) (4*hW s*hH s) (4*hW s*hH s)] 32)).cell? ⟨w.heap.size,0,none⟩=some (.int .i64 0):=by simpa using(cell_of b 0).1
  have z1:(w2.alloc (.cells #[.int .i64 (hW s:Int),.int .i64 (hH s:Int),.slice (some ⟨gp,0,none⟩) (4*hW s*hH s) (4*hW s*hH s)] 32)).cell? ⟨w.heap.size,1,none⟩=some (.int .i64 0):=by simpa using(cell_of b 1).1
  have z2:(w2.alloc (.cells #[.int .i64 (hW s:Int),.int .i64 (hH s:Int),.slice (some ⟨gp,0,none⟩) (4*hW s*hH s) (4*hW s*hH s)] 32)).cell? ⟨w.heap.size,2,none⟩=some (.slice none 0 0):=by simpa using(cell_of b 2).1
  have y0:=(cell_of b 0).2;have y1:=(cell_of b 1).2;have y2:=(cell_of b 2).2;clear c g b a5 a6 N O z q4 q5 q6 q7 q8 A;go_wp2_with fail
  refine aI (v:= .tuple #[.agg #[.int .i64 (hW s:Int),.int .i64 (hH s:Int),.slice (some ⟨gp,0,none⟩) (4*hW s*hH s) (4*hW s*hH s)],.nilIface]) (by simp[results,results50,go_sem,z0,z1,z2]) rfl ?_;obtain⟨g1,g2,_,g4⟩:=B.out;obtain⟨N,O,z,q4⟩:=HQ.out;have hg:=HG.out;exact .inl ⟨P1,st,t,P2,f,gp,N,O,z,q4,rfl,(g4 gp (by omega)).trans b1.out,by omega,g1⟩
 ·have c:=(z.other _ _ _ _ o.out (by decide)).trans o.out;have g:=ai c;have C:(w2.alloc (.cells #[.int .i64 0,.int .i64 0,.slice none 0 0] 32)).heap[w.heap.size]?=some (.cells #[.int .i64 0,.int .i64 0,.slice none 0 0] 32 (0,0)):=(aj _ _ _ g).trans c;have p:PE S.base w (w2.alloc (.cells #[.int .i64 0,.int .i64 0,.slice none 0 0] 32)):=(PE.trans Q.out z).trans (PE.alloc _ _ _ (by have:=z.size;have:=R.out;omega));have q:oC S (w.heap.size+1) (w2.alloc (.cells #[.int .i64 0,.int .i64 0,.slice none 0 0] 32)):=O.grow (fun k y=>aj _ _ k y);have D:ah _:=ES S (w.heap.size+1) _ q;have E:ah (KF lb (w2.alloc (.cells #[.int .i64 0,.int .i64 0,.slice none 0 0] 32)) 362 lb):=(⟨0,⟨rfl,rfl⟩⟩:KF _ _ _ _);have b2:ah _:=N;have r:ah _:=C;have G:ah _:=p;have H:ah _:=q;have h:S.base<=(w2.alloc (.cells #[.int .i64 0,.int .i64 0,.slice none 0 0] 32)).heap.size:=by have:=p.size;omega
  have I:ah _:=h;clear c g C p q N O z A h;unfold xh;go_wp2_with fail
  refine bz D.out ?_;rintro e w3 ⟨n,rfl,J⟩;rw[<-J]at r G H E I;clear J D;go_wp2_with fail
  refine(at_one _ _ _ _ _).mono ?_;rintro e u ⟨rfl,d⟩;have x:∀k,k<w3.heap.size->u.heap[k]?=w3.heap[k]?:=fun k y=>by rw[d];exact aj _ _ k y
  have b:=(x _ (ai r.out)).trans r.out;have L:PE S.base w u:=by rw[d];exact PE.trans G.out (PE.alloc _ _ _ I.out)
  have M:oC S (w.heap.size+1) u:=oC.grow H.out x;have B:ah _:=qW (S:=S) (cb:=w.heap.size+1) L b M P (.int .i64 0) (.int .i64 0) (.slice none 0 0);have X:ah (KF lb u 214 ⟨w3.heap.size,0,none⟩):=(by rw[d];obtain⟨m,hm⟩:=E.out;exact⟨m+1,hm.place _ _⟩:KF _ _ _ _);have a7:ah _:=b;have z0:u.cell? ⟨w.heap.size,0,none⟩=some (.int .i64 0):=by simpa using(cell_of b 0).1
  have z1:u.cell? ⟨w.heap.size,1,none⟩=some (.int .i64 0):=by simpa using(cell_of b 1).1
  have z2:u.cell? ⟨w.heap.size,2,none⟩=some (.slice none 0 0):=by simpa using(cell_of b 2).1
  have y0:=(cell_of b 0).2;have y1:=(cell_of b 1).2;have y2:=(cell_of b 2).2;clear b L M x d;go_wp2_with fail
  refine aI (v:= .tuple #[.agg #[.int .i64 0,.int .i64 0,.slice none 0 0],.iface 214 (.pointer (some ⟨w3.heap.size,0,none⟩))]) (by simp[results,results50,go_sem,z0,z1,z2]) rfl ?_;obtain⟨g1,g2,g3,g4⟩:=B.out;obtain⟨m,hm⟩:=X.out;exact .inr (.inl ⟨b2.out,⟨_,_,rfl,m,hm.over (fun k cur f e=>g4 k (fun e2=>by rw[e2,a7.out]at e;simp at e))⟩,g1⟩)
 ·have c:=(z.other _ _ _ _ o.out (by decide)).trans o.out;have g:=ai c;have C:(w2.alloc (.cells #[.int .i64 0,.int .i64 0,.slice none 0 0] 32)).heap[w.heap.size]?=some (.cells #[.int .i64 0,.int .i64 0,.slice none 0 0] 32 (0,0)):=(aj _ _ _ g).trans c;have p:PE S.base w (w2.alloc (.cells #[.int .i64 0,.int .i64 0,.slice none 0 0] 32)):=(PE.trans Q.out z).trans (PE.alloc _ _ _ (by have:=z.size;have:=R.out;omega));have q:oC S (w.heap.size+1) (w2.alloc (.cells #[.int .i64 0,.int .i64 0,.slice none 0 0] 32)):=O.grow (fun k y=>aj _ _ k y);have D:ah _:=ES S (w.heap.size+1) _ q;have E:ah _:=dO.alloc N (.cells #[.int .i64 0,.int .i64 0,.slice none 0 0] 32);have r:ah _:=C;have G:ah _:=p;have H:ah _:=q;have h:S.base<=(w2.alloc (.cells #[.int .i64 0,.int .i64 0,.slice none 0 0] 32)).heap.size:=by have:=p.size;omega
  have I:ah _:=h;clear c g C p q N O z A h;unfold xh;go_wp2_with fail
  refine bz D.out ?_;rintro e w3 ⟨n,rfl,J⟩;rw[<-J]at r G H E I;clear J D;go_wp2_with fail
  refine(at_one _ _ _ _ _).mono ?_;rintro e u ⟨rfl,d⟩;have x:∀k,k<w3.heap.size->u.heap[k]?=w3.heap[k]?:=fun k y=>by rw[d];exact aj _ _ k y
  have b:=(x _ (ai r.out)).trans r.out;have L:PE S.base w u:=by rw[d];exact PE.trans G.out (PE.alloc _ _ _ I.out)
  have M:oC S (w.heap.size+1) u:=oC.grow H.out x;have B:ah _:=qW (S:=S) (cb:=w.heap.size+1) L b M P (.int .i64 0) (.int .i64 0) (.slice none 0 0);have X:ah _:=(show dO S u 214 ⟨w3.heap.size,0,none⟩ (¬H0 s\/(hW s*hH s<=bM/\¬Good s))from by rw[d];exact dO.place E.out _ _);have a7:ah _:=b;have z0:u.cell? ⟨w.heap.size,0,none⟩=some (.int .i64 0):=by simpa using(cell_of b 0).1
  have z1:u.cell? ⟨w.heap.size,1,none⟩=some (.int .i64 0):=by simpa using(cell_of b 1).1
  have z2:u.cell? ⟨w.heap.size,2,none⟩=some (.slice none 0 0):=by simpa using(cell_of b 2).1
  have y0:=(cell_of b 0).2;have y1:=(cell_of b 1).2;have y2:=(cell_of b 2).2;clear b L M x d;go_wp2_with fail
  refine aI (v:= .tuple #[.agg #[.int .i64 0,.int .i64 0,.slice none 0 0],.iface 214 (.pointer (some ⟨w3.heap.size,0,none⟩))]) (by simp[results,results50,go_sem,z0,z1,z2]) rfl ?_;obtain⟨g1,g2,g3,g4⟩:=B.out;exact .inr (.inr ⟨⟨_,_,rfl,g3 _ _ _ X.out⟩,g1⟩)
end Pr
namespace Pr
open Go.RowKit Rf Cr
theorem Ob(b:ByteArray)(la:Option bP)(n cap:Nat)(w:af):
 aF prog 49 #[.string b,.slice la n cap] w fun e w'=>e= .returned (.pointer (some ⟨w.heap.size,0,none⟩))/\w'=w.alloc (zZ b (.slice la n cap) 0):=by
 go_enter func49,ntmps49
 go_wp2_with fail
 go_ret;exact⟨rfl,rfl⟩
theorem Oc(sb:Nat)(w:af):
 aF prog 48 #[.iface 100 (.pointer (some ⟨sb,0,none⟩))] w fun e w'=>e= .returned (.pointer (some ⟨w.heap.size,0,none⟩))/\w'=w.alloc (MQ sb 0):=by
 go_enter func48,ntmps48
 go_wp2_with fail
 go_ret;exact⟨rfl,rfl⟩
structure JI(w:af)(eb fb lb:bP):Prop where
 qL:jI w eb fb lb w.heap.size
 Vy:yN w
 tab:Tab w
 ord:jk w
 sml:mG w
 ng:7<=w.heap.size
def afw(b:ByteArray)(bM:Nat)(L:List Int)(s:ByteArray)(w:af)(e:Ending)(w':af):Prop:=
 (∃P1 st t P2 f gp,Way s P1 st t P2/\hW s*hH s<=bM/\(s=b/\∃k,jJ L s.size=some k)/\NU s P1 st t=some f/\e= .returned (.tuple #[.agg #[.int .i64 (hW s:Int),.int .i64 (hH s:Int),.slice (some ⟨gp,0,none⟩) (4*hW s*hH s) (4*hW s*hH s)],.int .i64 0])/\iC w' gp f.dM/\w.heap.size<=gp)\/
 (((H0 s/\bM<hW s*hH s)/\∃k,jJ L 33=some k)/\e= .returned (.tuple #[xh,.int .i64 2]))\/
 ((¬H0 s\/(hW s*hH s<=bM/\¬Good s))/\e= .returned (.tuple #[xh,.int .i64 3]))\/
 ((∃t,t<b.size/\jJ L (t+1)=none)/\e= .returned (.tuple #[xh,.int .i64 4]))
def afO(b:ByteArray)(L:List Int)(s:ByteArray):Prop:=s=b\/∃t,t<s.size/\t<b.size/\jJ L (t+1)=none/\∀i,i<t->aA s i=aA b i
theorem IW(b:ByteArray)(bM:Int)(la:Option bP)(n cap:Nat)(w:af)(h:bM<1\/1048576<bM):
 aF prog 16 #[.string b,.int .i64 bM,.slice la n cap] w fun e w'=>e= .returned (.tuple #[xh,.int .i64 1])/\aJ w.heap.size w w':=by
 have a:aJ w.heap.size w ((w.alloc (.cells pU 32))):=(aP _ _).alloc (ag _) _;unfold pU at a;have c:ah _:=a;clear a;unfold xh;rcases h with h|h
 ·go_enter func16,ntmps16
  go_wp2_with fail
  refine aI (v:= .tuple #[.agg #[.int .i64 0,.int .i64 0,.slice none 0 0],.int .i64 1]) (by simp[results,results16,go_sem]) rfl ?_;exact⟨rfl,c.out⟩
 ·have d:¬bM<1:=by omega
  go_enter func16,ntmps16
  go_wp2_with fail
  refine aI (v:= .tuple #[.agg #[.int .i64 0,.int .i64 0,.slice none 0 0],.int .i64 1]) (by simp[results,results16,go_sem]) rfl ?_;exact⟨rfl,c.out⟩
theorem xX{w X:af}(h:aJ w.heap.size w X)(v0 v1 v2:ay):aJ w.heap.size w (((X.setCell ⟨w.heap.size,0,none⟩ v0).setCell ⟨w.heap.size,1,none⟩ v1).setCell ⟨w.heap.size,2,none⟩ v2):=dW (dW (dW h _ _ (ag _) _) _ _ (ag _) _) _ _ (ag _) _
theorem Ed(b:ByteArray)(bM:Nat)(sl:ay)(L:List Int)(s:ByteArray)(w:af)(eb fb lb:bP)(hD:JI w eb fb lb)(J:qf w w.heap.size sl L)(M:afO b L s)(b5:b.size<=140737488354000)(b6:s.size<=140737488354000)(h1:1<=bM)(h2:bM<=1048576):
 aF prog 16 #[.string b,.int .i64 (bM:Int),sl] w fun e w'=>afw b bM L s w e w'/\aJ w.heap.size w w':=by
 obtain⟨D,r⟩:∃D:DD,D=⟨w.heap.size+2,w.heap.size+1,w.heap.size,b,sl,L,eb,fb,lb⟩:=⟨_,rfl⟩;obtain⟨la,cap,b7,b8,-⟩:=id J;have z:aJ w.heap.size w (((w.alloc (.cells pU 32)).alloc (zZ b sl 0)).alloc (MQ (w.heap.size+1) 0)):=(((aP _ _).alloc (ag _) _).alloc (by simp) _).alloc (by simp;omega) _;have a0:(((w.alloc (.cells pU 32)).alloc (zZ b sl 0)).alloc (MQ (w.heap.size+1) 0)).heap[w.heap.size]?=some (.cells pU 32 (0,0)):=(aj _ _ _ (by simp;omega)).trans ((aj _ _ _ (by simp)).trans (aO w _));have a1:(((w.alloc (.cells pU 32)).alloc (zZ b sl 0)).alloc (MQ (w.heap.size+1) 0)).heap[w.heap.size+1]?=some (zZ b sl 0):=by
  have:=aO (w.alloc (.cells pU 32)) (zZ b sl 0);have e:(w.alloc (.cells pU 32)).heap.size=w.heap.size+1:=by simp
  rw[e]at this;exact(aj _ _ _ (by simp)).trans this
 have a2:(((w.alloc (.cells pU 32)).alloc (zZ b sl 0)).alloc (MQ (w.heap.size+1) 0)).heap[w.heap.size+2]?=some (MQ (w.heap.size+1) 0):=by
  have:=aO ((w.alloc (.cells pU 32)).alloc (zZ b sl 0)) (MQ (w.heap.size+1) 0);have e:((w.alloc (.cells pU 32)).alloc (zZ b sl 0)).heap.size=w.heap.size+2:=by simp
  rw[e]at this;exact this
 have hK:Ew D (((w.alloc (.cells pU 32)).alloc (zZ b sl 0)).alloc (MQ (w.heap.size+1) 0)) 0 0:=by rw[r];exact⟨a2,by show _=some (zZ (b.extract 0 b.size) sl 0);rw[ByteArray.extract_zero_size];exact a1,J.over (fun k y=>z.block k y),hD.qL.over (fun k y=>z.block k y),aU _,aU _,Nat.le_succ _,by show w.heap.size<=w.heap.size+2;omega,b5⟩
 have V:yR D s:=by rw[r];exact M
 have a3:=ZO D s V (by rw[r];exact hD.ng) hK.bs hK.bg;have a4:=NH D s V;have a5:jI (((w.alloc (.cells pU 32)).alloc (zZ b sl 0)).alloc (MQ (w.heap.size+1) 0)) eb (vN D s).fb lb (vN D s).base:=by rw[r];exact hD.qL.over (fun k y=>z.block k y)
 have a6:=hD.ng;have W:ah _:=abW (vN D s) a3 s _ bM eb lb _ a4 ⟨rfl,0,rfl,hK⟩ a5 (xB hD.tab a6 (fun k y=>z.block k y)) (hD.ord.over (z.block _ (by omega))) (fun i hi=>(aV (z.block _ (by omega))).trans (hD.sml i hi)) h2 b6;have N:(vN D s).base=w.heap.size:=by rw[r];rfl
 have a7:(vN D s).fb=fb:=by rw[r];rfl
 have ea:(vN D s).a=⟨w.heap.size+2,0,none⟩:=by rw[r];rfl
 have a8:(s=D.b/\∃k,jJ D.L s.size=some k)=(s=b/\∃k,jJ L s.size=some k):=by rw[r]
 have U:(vN D s).t_=∃t,t<b.size/\jJ L (t+1)=none:=by rw[r];rfl
 have a9:∀w',aJ w.heap.size w w'->yN w':=fun w' hb=>hD.Vy.over (fun k y=>hb.block k (by omega));have b0:∀w',aJ w.heap.size w w'->jI w' eb fb lb w.heap.size:=fun w' hb=>hD.qL.over (fun k y=>hb.block k y);have b1:ah _:=a9;have b2:ah _:=b0;have u:ah _:=a0;have G:ah _:=z;have b3:ah ((∃w0,(vN D s).K w0 s 33)->∃k,jJ L 33=some k):=(fun h=>by obtain⟨w0,_,k,y,_⟩:=h;rw[r]at y;exact⟨k,y⟩:_->_);have A:ah _:=(⟨N,a7,a8,U⟩:_/\_/\_/\_);obtain⟨S,hS⟩:∃S,S=vN D s:=⟨_,rfl⟩;rw[<-hS]at W A b3;have eT:(vN D s).T=98:=rfl;rw[<-hS]at eT ea;have l:ah (aF prog 50 #[.iface 98 (.pointer (some ⟨w.heap.size+2,0,none⟩)),.int .i64 (bM:Int)] (((w.alloc (.cells pU 32)).alloc (zZ b sl 0)).alloc (MQ (w.heap.size+1) 0)) (aee S s bM lb (s=D.b/\∃k,jJ D.L s.size=some k) (((w.alloc (.cells pU 32)).alloc (zZ b sl 0)).alloc (MQ (w.heap.size+1) 0)))):=(by have:=W.out;rw[eT,ea]at this;exact this:aF _ _ _ _ _);clear hD J M z a0 a1 a2 hK V a3 a4 a5 a6 W N a7 ea a8 U a9 b0 hS eT;subst b7;obtain⟨n,hn⟩:∃n,n=L.length:=⟨_,rfl⟩;rw[<-hn]at l u G|-;clear hn b8;unfold pU at*;have l1:¬((bM:Int)<1):=by omega
 have l2:¬((1048576:Int)<(bM:Int)):=by omega
 go_enter func16,ntmps16
 go_wp2_with fail
 refine(Ob b la n cap _).mono ?_;rintro e w1 ⟨rfl,b9⟩;subst b9;go_wp2_with fail
 refine(Oc _ _).mono ?_;rintro e w2 ⟨rfl,X⟩;rw[<-X]at l u G;have b4:w2.heap.size=w.heap.size+3:=by rw[X];simp
 have c3:ah _:=b4;have e2:((w.alloc (.cells #[.int .i64 0,.int .i64 0,.slice none 0 0] 32)).alloc (zZ b (.slice la n cap) 0)).heap.size=w.heap.size+2:=by simp
 simp only[e2];clear e2 X b4;go_wp2_with fail
 refine bz l.out ?_;rintro e w3 (⟨P1,st,t,P2,f,gp,C,H,E,q4,rfl,q5,q6,q7⟩|⟨C,⟨T,a,rfl,H⟩,E⟩|⟨⟨T,a,rfl,C⟩,E⟩)
 ·have d:=(q7.other _ _ _ _ u.out (by decide)).trans u.out;have o:=ai d;have g:aJ w.heap.size w w3:=gI G.out (by have:=q7.below;rw[A.out.1]at this;exact this);have c:(w3.alloc (.cells #[.int .i64 (hW s:Int),.int .i64 (hH s:Int),.slice (some ⟨gp,0,none⟩) (4*hW s*hH s) (4*hW s*hH s)] 32)).heap[w.heap.size]?=some (.cells #[.int .i64 0,.int .i64 0,.slice none 0 0] 32 (0,0)):=(aj _ _ _ o).trans d;have x:ah (aJ w.heap.size w (w3.alloc (.cells #[.int .i64 (hW s:Int),.int .i64 (hH s:Int),.slice (some ⟨gp,0,none⟩) (4*hW s*hH s) (4*hW s*hH s)] 32))):=(g.alloc g.size _:aJ _ _ _);have c4:ah _:=(aj w3 (.cells #[.int .i64 (hW s:Int),.int .i64 (hH s:Int),.slice (some ⟨gp,0,none⟩) (4*hW s*hH s) (4*hW s*hH s)] 32) gp (ai q5)).trans q5;have HQ:ah _:=(⟨C,H,(A.out.2.2.1▸E:s=b/\∃k,jJ L s.size=some k),q4⟩:_/\_/\_/\_);have HG:ah (w.heap.size<gp):=(by have:=c3.out;omega:_<_);have Y:(w3.alloc (.cells #[.int .i64 (hW s:Int),.int .i64 (hH s:Int),.slice (some ⟨gp,0,none⟩) (4*hW s*hH s) (4*hW s*hH s)] 32)).cell? ⟨w.heap.size,0,none⟩=some (.int .i64 0):=by simpa using(cell_of c 0).1
  have Z:(w3.alloc (.cells #[.int .i64 (hW s:Int),.int .i64 (hH s:Int),.slice (some ⟨gp,0,none⟩) (4*hW s*hH s) (4*hW s*hH s)] 32)).cell? ⟨w.heap.size,1,none⟩=some (.int .i64 0):=by simpa using(cell_of c 1).1
  have z2:(w3.alloc (.cells #[.int .i64 (hW s:Int),.int .i64 (hH s:Int),.slice (some ⟨gp,0,none⟩) (4*hW s*hH s) (4*hW s*hH s)] 32)).cell? ⟨w.heap.size,2,none⟩=some (.slice none 0 0):=by simpa using(cell_of c 2).1
  have y0:=(cell_of c 0).2;have y1:=(cell_of c 1).2;have y2:=(cell_of c 2).2;clear d o g c C H E q4 q5 q6 q7 l;go_wp2_with fail
  refine aI (v:= .tuple #[.agg #[.int .i64 (hW s:Int),.int .i64 (hH s:Int),.slice (some ⟨gp,0,none⟩) (4*hW s*hH s) (4*hW s*hH s)],.int .i64 0]) (by simp[results,results16,go_sem,Y,Z,z2]) rfl ?_;obtain⟨C,H,E,q4⟩:=HQ.out;have hg:=HG.out;refine⟨.inl ⟨P1,st,t,P2,f,gp,C,H,E,q4,rfl,?_,by omega⟩,xX x.out _ _ _⟩;exact((aB _ _ (by omega)).trans ((aB _ _ (by omega)).trans (aB _ _ (by omega)))).trans c4.out
 ·have d:=(E.other _ _ _ _ u.out (by decide)).trans u.out;have o:=ai d;have g:aJ w.heap.size w w3:=gI G.out (by have:=E.below;rw[A.out.1]at this;exact this);have p:(w3.alloc (.cells #[.int .i64 0,.int .i64 0,.slice none 0 0] 32)).heap[w.heap.size]?=some (.cells #[.int .i64 0,.int .i64 0,.slice none 0 0] 32 (0,0)):=(aj _ _ _ o).trans d;have j:aJ w.heap.size w (w3.alloc (.cells #[.int .i64 0,.int .i64 0,.slice none 0 0] 32)):=g.alloc g.size _;have O:ah _:=Xj T a eb fb lb w.heap.size (w3.alloc (.cells #[.int .i64 0,.int .i64 0,.slice none 0 0] 32)) (b1.out _ j) (b2.out _ j) j.size (by obtain⟨m,hm⟩:=H;exact⟨m,hm.grow (fun k y=>aj _ _ k y)⟩);have x:ah _:=j;have P:ah _:=p;have B:=ai p;have I:ah _:=C;clear d o g p j C H E l;unfold xh;have Q:ah _:=B;clear B;go_wp2_with fail
  refine bz O.out ?_;rintro e F ⟨rfl,q⟩;have c:=(q.block _ Q.out).trans P.out;have R:ah (aJ w.heap.size w F):=(gI x.out (q.mono (by have:=jh x.out;omega)):aJ _ _ _);have Y:F.cell? ⟨w.heap.size,0,none⟩=some (.int .i64 0):=by simpa using(cell_of c 0).1
  have Z:F.cell? ⟨w.heap.size,1,none⟩=some (.int .i64 0):=by simpa using(cell_of c 1).1
  have z2:F.cell? ⟨w.heap.size,2,none⟩=some (.slice none 0 0):=by simpa using(cell_of c 2).1
  have y0:=(cell_of c 0).2;have y1:=(cell_of c 1).2;have y2:=(cell_of c 2).2;clear c q;go_wp2_with fail
  refine aI (v:= .tuple #[.agg #[.int .i64 0,.int .i64 0,.slice none 0 0],.int .i64 2]) (by simp[results,results16,go_sem,Y,Z,z2]) rfl ?_;exact⟨.inr (.inl ⟨⟨I.out.1,b3.out I.out.2⟩,rfl⟩),xX R.out _ _ _⟩
 ·rcases C with⟨C,H⟩|⟨C,H⟩
  ·have d:=(E.other _ _ _ _ u.out (by decide)).trans u.out;have o:=ai d;have g:aJ w.heap.size w w3:=gI G.out (by have:=E.below;rw[A.out.1]at this;exact this);have p:(w3.alloc (.cells #[.int .i64 0,.int .i64 0,.slice none 0 0] 32)).heap[w.heap.size]?=some (.cells #[.int .i64 0,.int .i64 0,.slice none 0 0] 32 (0,0)):=(aj _ _ _ o).trans d;have j:aJ w.heap.size w (w3.alloc (.cells #[.int .i64 0,.int .i64 0,.slice none 0 0] 32)):=g.alloc g.size _;have O:ah _:=Xh T a (w3.alloc (.cells #[.int .i64 0,.int .i64 0,.slice none 0 0] 32)) (b1.out _ j) (C.grow (fun k y=>aj _ _ k y));have x:ah _:=j;have P:ah _:=p;have B:=ai p;have I:ah _:=H;clear d o g p j C H E l;unfold xh;have Q:ah _:=B;clear B;go_wp2_with fail
   refine bz O.out ?_;rintro e F ⟨rfl,q⟩;have c:=(q.block _ Q.out).trans P.out;have R:ah (aJ w.heap.size w F):=(gI x.out (q.mono (by have:=jh x.out;omega)):aJ _ _ _);have Y:F.cell? ⟨w.heap.size,0,none⟩=some (.int .i64 0):=by simpa using(cell_of c 0).1
   have Z:F.cell? ⟨w.heap.size,1,none⟩=some (.int .i64 0):=by simpa using(cell_of c 1).1
   have z2:F.cell? ⟨w.heap.size,2,none⟩=some (.slice none 0 0):=by simpa using(cell_of c 2).1
   have y0:=(cell_of c 0).2;have y1:=(cell_of c 1).2;have y2:=(cell_of c 2).2;clear c q;go_wp2_with fail
   refine aI (v:= .tuple #[.agg #[.int .i64 0,.int .i64 0,.slice none 0 0],.int .i64 3]) (by simp[results,results16,go_sem,Y,Z,z2]) rfl ?_;exact⟨.inr (.inr (.inl ⟨I.out,rfl⟩)),xX R.out _ _ _⟩
  ·have d:=(E.other _ _ _ _ u.out (by decide)).trans u.out;have o:=ai d;have g:aJ w.heap.size w w3:=gI G.out (by have:=E.below;rw[A.out.1]at this;exact this);have p:(w3.alloc (.cells #[.int .i64 0,.int .i64 0,.slice none 0 0] 32)).heap[w.heap.size]?=some (.cells #[.int .i64 0,.int .i64 0,.slice none 0 0] 32 (0,0)):=(aj _ _ _ o).trans d;have j:aJ w.heap.size w (w3.alloc (.cells #[.int .i64 0,.int .i64 0,.slice none 0 0] 32)):=g.alloc g.size _;have O:ah _:=Xi T a fb (w3.alloc (.cells #[.int .i64 0,.int .i64 0,.slice none 0 0] 32)) (jI.fa (b2.out _ j)) (by rw[A.out.2.1]at C;exact C.grow (fun k y=>aj _ _ k y));have x:ah _:=j;have P:ah _:=p;have B:=ai p;have I:ah (∃t,t<b.size/\jJ L (t+1)=none):=(A.out.2.2.2▸H:∃t,_);clear d o g p j C H E l;unfold xh;have Q:ah _:=B;clear B;go_wp2_with fail
   refine bz O.out ?_;rintro e F ⟨rfl,q⟩;have c:=(q.block _ Q.out).trans P.out;have R:ah (aJ w.heap.size w F):=(gI x.out (q.mono (by have:=jh x.out;omega)):aJ _ _ _);have Y:F.cell? ⟨w.heap.size,0,none⟩=some (.int .i64 0):=by simpa using(cell_of c 0).1
   have Z:F.cell? ⟨w.heap.size,1,none⟩=some (.int .i64 0):=by simpa using(cell_of c 1).1
   have z2:F.cell? ⟨w.heap.size,2,none⟩=some (.slice none 0 0):=by simpa using(cell_of c 2).1
   have y0:=(cell_of c 0).2;have y1:=(cell_of c 1).2;have y2:=(cell_of c 2).2;clear c q;go_wp2_with fail
   refine aI (v:= .tuple #[.agg #[.int .i64 0,.int .i64 0,.slice none 0 0],.int .i64 4]) (by simp[results,results16,go_sem,Y,Z,z2]) rfl ?_;exact⟨.inr (.inr (.inr ⟨I.out,rfl⟩)),xX R.out _ _ _⟩
end Pr
open Go.RowKit
theorem ab6:prog.globalNamed "vellum/fault.TooLarge" =some 1:=by kernel_rfl
theorem ae2:(prog.globals[1]?).map (·.type)=some 80:=by kernel_rfl
theorem afB:prog.globalNamed "vellum/running.crcOfNibble" =some 4:=by kernel_rfl
theorem afQ:(prog.globals[4]?).map (·.type)=some 268:=by kernel_rfl
theorem ab7:prog.globalNamed "vellum/rows.small" =some 5:=by kernel_rfl
theorem ae3:(prog.globals[5]?).map (·.type)=some 333:=by kernel_rfl
def yh:List (String×DataW Unit):=[("vellum/running.crcOfNibble",Rows.laid_vellum_running_crcOfNibble),("errors.errorType",Rows.laid_errors_errorType),("vellum/fault.End",Rows.laid_vellum_fault_End),("vellum/fault.Failed",Rows.laid_vellum_fault_Failed),("vellum/fault.TooLarge",Rows.laid_vellum_fault_TooLarge),("vellum/rows.small",Rows.laid_vellum_rows_small),("vellum/unpack.lengthOrder",Rows.laid_vellum_unpack_lengthOrder)]
theorem LK(os:Os)(args:Array ay):laidMetH prog yh ((World.doorLaid prog 95 os).forCall (fun _ _=>0) ⟨#[],args,[]⟩).memory:=
 laidMetH_of_parts3 (fuel:=8) (laidMet_of_run' 8 (by kernel_rfl) (by kernel_rfl)) (by kernel_rfl) (by kernel_rfl)
def Df:List Int:=(List.range 16).map fun i=>((Cr.steps 4 i:Nat):Int)
theorem ae4:(Rows.laid_vellum_running_crcOfNibble:DataW Unit)=Lib.tabData .u32 Df:=by kernel_rfl
theorem ae5(i:Nat)(h:i<16):Df.getD i 0=((Cr.steps 4 i:Nat):Int):=by unfold Df;simp[List.getD_eq_getElem?_getD,h]
def RU{H:Type}(k:IntKind)(zss:List (List Int)):DataW H:= .agg (zss.map fun zs=>Lib.tabData k zs)
theorem JL{H:Type}{enc:aY×ay->H}{P:Program}{w:af}{base:Nat}{sp:Nat->Bool}{held:Bool}{fuel:Nat}{t r e:aY}{n m:Nat}{k:IntKind}{cs:List ay}{zss:List (List Int)}{p:List MemPlace}
 (l:P.underlying t=some (.array n r)) (o:P.underlying r=some (.array m e)) (he:P.underlying e=some (.int k)) (b:P.cellsOf e=1) (a:P.cellsOf r=m)
 (h:DataW.trod enc P w base sp held fuel t cs=some (RU k zss,p)) (i j:Nat) (hi:i<n) (q:j<m) (zs:List Int) (c:zss[i]?=some zs):cs[i*m+j]?=(zs.map fun z=>Value.int k z)[j]?:=by
 obtain⟨xs,f,_,hx,v,x,d⟩:=DataW.trod_array l h;have g:=d i hi;rw[a,aG (by omega)]at g;have s:xs.map (·.1)=zss.map fun zs=>(Lib.tabData k zs:DataW H):=by
  have:=gY Prod.fst hx;injection this with this
  exact this.symm
 have h3:(xs[i]'(by omega)).1=Lib.tabData k zs:=by have:=gY (·[i]?) s;simp only[List.getElem?_map,c,List.getElem?_eq_getElem (show i<xs.length by omega),Option.map_some,Option.some.injEq]at this;exact this
 have u:=Lib.cells_of_tab (zs:=zs) (p:=(xs[i]'(by omega)).2) o he b a (g.trans (gY some (Prod.ext h3 rfl)));rw[<-u,dU q,iZ]
def zV:List (List Int):=[[0,8,0,8],[4,8,0,8],[0,4,4,8],[2,4,0,4],[0,2,2,4],[1,2,0,2],[0,1,1,2]]
theorem ab8:(Rows.laid_vellum_rows_small:DataW Unit)=RU .u8 zV:=by kernel_rfl
theorem I_{W:af}(h:laidMetH prog yh W):laidMet prog [("vellum/running.crcOfNibble",Rows.laid_vellum_running_crcOfNibble),("vellum/fault.End",Rows.laid_vellum_fault_End),("vellum/fault.Failed",Rows.laid_vellum_fault_Failed),("vellum/fault.TooLarge",Rows.laid_vellum_fault_TooLarge),("vellum/rows.small",Rows.laid_vellum_rows_small),("vellum/unpack.lengthOrder",Rows.laid_vellum_unpack_lengthOrder)] W/\handlesMet prog [("errors.errorType",Rows.laid_errors_errorType)] W:=h
theorem RV{W:af}(h:laidMetH prog yh W):Tab W:=by have a:=(I_ h).1;rw[ae4]at a;have b:Lib.TabIs prog W "vellum/running.crcOfNibble" .u32 Df:=Lib.tabIs_of_head afB afQ underlying268 underlying96 (by kernel_rfl) (by kernel_rfl) a;intro i hi;have:=b.cell afB i (by simpa [Df]using hi);rw[ae5 i hi]at this;exact this
theorem Ja{W:af}(h:laidMetH prog yh W):Pr.jk W:=by
 have a:=(I_ h).1.tail.tail.tail.tail.tail;rw[ab5]at a;have b:Lib.TabIs prog W "vellum/unpack.lengthOrder" .u8 xk:=Lib.tabIs_of_head ab3 aeZ underlying347 underlying5 (by kernel_rfl) (by kernel_rfl) a;intro i hi;have c:xk.length=19:=by decide
 have:=b.cell ab3 i (by omega);rw[this];have e:xk.getD i 0=((Rf.order.getD i 0:Nat):Int):=by unfold xk;rw[ak,jr,ak];cases Rf.order[i]?<;>rfl
 rw[e]
theorem JM{W:af}(h:laidMetH prog yh W):Pr.mG W:=by
 have g:=(I_ h).1.tail.tail.tail.tail;rw[ab8]at g;obtain⟨ps,⟨m,n,cs,fuel,p,q,e,f,a,hd,_,_⟩,_⟩:=g;obtain rfl:=dB (ab7.symm.trans e);obtain rfl:=dB (ae3.symm.trans f);intro i hi;have j:=World.var?_cell ab7 a i;rw[j];have b:i/4<7:=by omega
 obtain⟨zs,c⟩:∃zs,zV[i/4]?=some zs:=⟨_,aG (by exact b)⟩;have:=JL (zss:=zV) underlying333 underlying332 underlying5 (by kernel_rfl) (by kernel_rfl) hd (i/4) (i%4) b (by omega) zs c;rw[show i/4*4+i%4=i by omega]at this;refine Eq.trans (by simpa using this) ?_;have d:∀k,k<28->∀zs,zV[k/4]?=some zs->(zs.map fun z=>Value.int .u8 z)[k%4]?=some (.int .u8 ((Pr.Ny.getD k 0:Nat):Int)):=by
  intro k o zs l;rcases(by omega:k=0\/k=1\/k=2\/k=3\/k=4\/k=5\/k=6\/k=7\/k=8\/k=9\/k=10\/k=11\/k=12\/k=13\/k=14\/k=15\/k=16\/k=17\/k=18\/k=19\/k=20\/k=21\/k=22\/k=23\/k=24\/k=25\/k=26\/k=27)with rfl|rfl|rfl|rfl|rfl|rfl|rfl|rfl|rfl|rfl|rfl|rfl|rfl|rfl|rfl|rfl|rfl|rfl|rfl|rfl|rfl|rfl|rfl|rfl|rfl|rfl|rfl|rfl
  all_goals
   cases l;rfl
 simpa using d i hi zs c
theorem Oj{W:af}{a b:bP}{s t:ByteArray}{l m:List UInt8}(d:W.cell? a=some (.string s))(f:s.data.toList=l)(h3:W.cell? b=some (.string t))(g:t.data.toList=m)(c:l≠m):a≠b:=fun e=>by
 subst e;rw[d]at h3;injection h3 with h3
 injection h3 with h3
 subst h3;exact c (f.symm.trans g)
theorem Dh{W:af}(h:laidMetH prog yh W):∃eb fb lb,Pr.JI W eb fb lb:=by
 have g:=Ja h;have b:7<=W.heap.size:=by have:=Er.zB (g 0 (by omega));simp at this;omega
 have i:=(I_ h).1.tail;obtain⟨q,f,G,s1,c0,c1,r,s,v0,v1,j,x0,_,d,k,_,_,l,m⟩:=laid_sentinels2 i afz afP Oi WG underlying80 ab4 underlying362 underlying384 rfl rfl underlying9 WH RS;obtain⟨v,w,x,s2,y,c2,z,A,B,v2,_,_,_,e,n,_,_,_,o⟩:=laid_sentinels2 i.tail Oi WG ab6 ae2 underlying80 ab4 underlying362 underlying384 rfl rfl underlying9 WH RS;have lt:∀{a:bP} {c:Array ay} {t:aY},W.heap[a.block]?=some (.cells c t (0,0))->a.block<W.heap.size:=fun h=>Pr.ai h;have hF:Pr.lS W f:=by simpa [Pr.lS]using World.var?_cell Oi v1 0
 have C:Pr.yN W:=by
  obtain⟨name,u,ty,d,e,D,E,p⟩:=(I_ h).2 _ (List.mem_singleton.2 rfl);have en:name=[101,114,114,111,114]:=(dB d).symm;subst en;obtain rfl:=dB (afA.symm.trans e);have hm:ty∈(List.range 394).filter fun t=>prog.rowNamed t [101,114,114,111,114]:=List.mem_filter.2 ⟨List.mem_range.2 (by rw[<-ae0];exact D),E⟩;rw[ae1]at hm;obtain rfl:=List.mem_singleton.1 hm;have F:typeHandle prog 80= .pointer (some ⟨7,80,none⟩):=by kernel_rfl
  rw[F]at p;exact⟨⟨f,hF⟩,by simpa using World.var?_cell afy p 0⟩
 exact⟨q,f,w,⟨by simpa [Pr.oK]using World.var?_cell afz v0 0,hF,by simpa [Pr.vK]using World.var?_cell ab6 v2 0,Oj j x0 d k (by decide),Oj j x0 e n (by decide),Oj d k e n (by decide),⟨c0,r,l⟩,⟨c1,s,m⟩,⟨c2,A,o⟩,⟨lt l,lt m,lt o⟩,b⟩,C,RV h,g,JM h,b⟩
end Go.Proofs.YtephkcdbnogdhaaGreatDoor
