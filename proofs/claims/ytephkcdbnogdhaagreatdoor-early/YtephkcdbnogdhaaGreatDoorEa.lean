import Derived.Test.YtephkcdbnogdhaaGreatDoorE
set_option linter.unusedVariables false
set_option maxHeartbeats 40000000
set_option maxRecDepth 10000
namespace Go.Proofs.YtephkcdbnogdhaaGreatDoor
open Go.Proofs.Tryz
open Go renaming World->af,Value->ay,Calls->aH,TypeId->aW,Addr->bG
open Go.RowKit renaming Hid->au,Below->aA
namespace Kp
open Go.RowKit Rf Cr
open Pr
open gI (bQ gQ)
theorem aeX(X:af)(b:Nat)(hb:b<256):Bytes (X.alloc (.cells #[.int .u8 (b:Int)] 5)).drew X.heap.size [UInt8.ofNat b]:=fun i hi=>by
 have a:i=0:=by simpa using hi
 subst a;refine(nU X _ 5 (0,0) 0).trans ?_;show some (Value.int .u8 (b:Int))=some (.int .u8 (((UInt8.ofNat b).toNat:Nat):Int));rw[dB];congr 3
 omega
theorem ae6(s:ByteArray):s.data.toList.length=s.size:=by simp
theorem ae7{w:af}{base n:Nat}{la:Option bG}{cap:Nat}{xs:List ay}(h:w.ownsRow base 9 1 (.slice la n cap) n xs):n<=cap:=by
 rcases h.2 with⟨e,h0⟩|⟨g,a,cur,e,_,_,b,_⟩
 ·omega
 ·injection e with _ _ e3
  omega
theorem aeG(p:Wk)(ds:List (List UInt8)):tZ ((kC p ds).take (1+(if p.oz=[]then 0 else 1)))=p.hd/\1+(if p.oz=[]then 0 else 1)<=(kC p ds).length:=by
 unfold kC Wk.hd;by_cases h:p.oz=[]
 ·rw[aG h,aG h];refine⟨?_,by simp⟩;simp[tZ,h]
 ·rw[ax h,ax h];refine⟨?_,by simp⟩;simp[tZ]
theorem TJ.take{w:af}{la:Option bG}{n cap k:Nat}{L:List ByteArray}(h:TJ w (.slice la n cap) L)(c:k<=L.length):TJ w (.slice la k cap) (L.take k):=by
 obtain⟨d,b,e,h2⟩:=h;injection e with f l e3
 subst f e3;refine⟨la,cap,by rw[eH,sH c],fun i hi=> ?_⟩;rw[eH]at hi;obtain⟨a,g,j⟩:=h2 i (by omega);refine⟨a,g,j.trans ?_⟩;rw[ag,ag,dh (by omega)]
theorem aeO(p:Wk)(F:Nat->Nat)(ds:List (List UInt8))(a b c z:Int)(I T:Bool)(ev sv fv pv:ay)(fz:Int)(w:af)(eb fb lb:bG)(h1:uu ev)(h2:uu sv)(h3:uu fv)(h4:uu pv)(hm:Made w p F ds z (yz a b c I ev T sv fv pv z) fv)(hD:KT w eb fb lb)(q9: -9223372036854775808<=z/\z<=9223372036854775807)(l1: -9223372036854775808<=fz/\fz<=9223372036854775807):
 aH prog 10 #[yz a b c I ev T sv fv pv z,.int .i64 fz] w fun e w'=>e= .returned (.bool true)/\aA w.heap.size w w':=by
 obtain⟨a1,n1,c1,rfl⟩:=h1;obtain⟨a2,U,c2,rfl⟩:=h2;obtain⟨a3,n3,c3,rfl⟩:=h3;obtain⟨a4,n4,c4,rfl⟩:=h4;have f4:=hm.short;have hp:=hm.ok;obtain⟨M,hM⟩:∃M,M=p.W*p.H:=⟨_,rfl⟩;have z2:1<=M:=by rw[hM];exact bD hp.w1 hp.h1
 have z3:M<=400:=by rw[hM];exact bD hp.w2 hp.h2
 have v9:=hp.w2;have x8:=hp.h2;obtain⟨X,hX⟩:∃X,X=pU p.q (p.W*p.H):=⟨_,rfl⟩;have r0:X.length=4*M:=by rw[hX,Zw,hM]
 obtain⟨tx,a8⟩:∃tx:ByteArray,tx=⟨(p.text ds).toArray⟩:=⟨_,rfl⟩;obtain⟨tz,f5⟩:∃tz,tz=tx.size:=⟨_,rfl⟩;have x9:45<=tz/\tz<=100000:=by rw[f5,a8,fF];exact⟨f4.1,f4.2.1⟩
 have HS:au (CY tx 1048576 ⟨0,p.W,p.H,X⟩):=(by rw[a8,hX];exact hm.all.ok 1048576 (by rw[<-hM];omega) (by omega):CY _ _ _);obtain⟨kf,l2⟩:∃kf,kf=(pk fz tz).toNat:=⟨_,rfl⟩;have y3:kf<tz:=by have:=rF fz tz (by omega);omega
 have r1:au (∀wx:af,aH prog 22 #[.int .i64 fz,.int .i64 (tx.size:Int)] wx fun e w'=>e= .returned (.int .i64 (kf:Int))/\w'=wx):=(fun wx=>by rw[l2,<-f5];exact qL fz tz l1 (by omega) (by omega) wx:∀wx,_);have r2:au _:=hm.wk;have r3:au _:=hm.ck;have r4:au _:=hm.im;have r5:au _:=hm.rw;have t:au (BK tx p.W p.H X/\M=p.W*p.H):=(⟨by rw[a8,hX];exact hm.all,hM⟩:_/\_);have f6:au _:=hp;have r6:au _:=hm.fil;have r7:=f4.2.2;have l3:au _:=hX;have l4:au _:=a8;have B:au _:=f5;have J:au _:=hD;clear hX a8 hD hp hM hm f4 l2 f5;unfold yz at*;go_enter func10,ntmps10
 go_upto_region 1 with fail
 have HX:au _:=aP w (.cells #[.int .i64 a,.int .i64 b,.int .i64 c,.bool I,.slice a1 n1 c1,.bool T,.slice a2 U c2,.slice a3 n3 c3,.slice a4 n4 c4,.int .i64 z] 56);have b0:au (aA w.heap.size w (w.alloc (.cells #[.int .i64 a,.int .i64 b,.int .i64 c,.bool I,.slice a1 n1 c1,.bool T,.slice a2 U c2,.slice a3 n3 c3,.slice a4 n4 c4,.int .i64 z] 56))):=((aV _ _).alloc (ah _) _:aA _ _ _);obtain⟨bx,j1⟩:∃bx,bx=w.heap.size:=⟨_,rfl⟩;rw[show(⟨w.heap.size,0,none⟩:bG)=⟨bx,0,none⟩by rw[j1]];rw[<-j1]at HX;have j2:au _:=ak HX.out;revert b0 HX j2;generalize w.alloc _=w0;intro b0 HX j2;have l5:au (∀wx,aA w0.heap.size w0 wx->aA w.heap.size w wx):=(fun wx hb=>b0.out.trans (hb.mono b0.out.size):∀wx,_);have f7:au (∀wx,aA w0.heap.size w0 wx->wx.cell? ⟨bx,0,none⟩=some (.int .i64 a)/\wx.cell? ⟨bx,1,none⟩=some (.int .i64 b)/\wx.cell? ⟨bx,2,none⟩=some (.int .i64 c)/\wx.cell? ⟨bx,3,none⟩=some (.bool I)/\wx.cell? ⟨bx,4,none⟩=some (.slice a1 n1 c1)/\wx.cell? ⟨bx,5,none⟩=some (.bool T)/\wx.cell? ⟨bx,6,none⟩=some (.slice a2 U c2)/\wx.cell? ⟨bx,7,none⟩=some (.slice a3 n3 c3)/\wx.cell? ⟨bx,8,none⟩=some (.slice a4 n4 c4)/\wx.cell? ⟨bx,9,none⟩=some (.int .i64 z)):=(fun wx hb=>by have h:=(hb.block _ j2.out).trans HX.out;exact⟨by simpa using(cell_of h 0).1,by simpa using(cell_of h 1).1,by simpa using(cell_of h 2).1,by simpa using(cell_of h 3).1,by simpa using(cell_of h 4).1,by simpa using(cell_of h 5).1,by simpa using(cell_of h 6).1,by simpa using(cell_of h 7).1,by simpa using(cell_of h 8).1,by simpa using(cell_of h 9).1⟩:∀wx,_)
 obtain⟨u0,u1,u2,u3,u4,u5,u6,u7,u8,u9⟩:=f7.out w0 (aV _ _);clear j1;go_wp2_with fail
 refine aU (r2.out w0 b0.out) ?_;rintro e w1 ⟨v,rfl,⟨ev,cv,sv,rfl,g1,g2,g3,g4⟩,l6⟩;obtain⟨e1,e2,e3,rfl⟩:=g1.sl;obtain⟨e4,e5,e6,rfl⟩:=g2.sl;obtain⟨e7,e8,e9,rfl⟩:=g3.sl;have r8:au _:=g4;clear g4;have HG:au (ji w1 w1.heap.size (.slice e1 e2 e3) p.E/\ji w1 w1.heap.size (.slice e4 e5 e6) p.C/\ji w1 w1.heap.size (.slice e7 e8 e9) p.S):=(⟨g1,g2,g3⟩:_/\_/\_);have l7:au _:=l6;clear g1 g2 g3 l6 u0 u1 u2 u3 u4 u5 u6 u7 u8 u9;unfold pW;go_upto_region 2 with fail
 have HY:au _:=aP w1 (oC p.W p.H p.K p.D p.I (.slice e1 e2 e3) (.slice e4 e5 e6) (.slice e7 e8 e9));have a5:aA w1.heap.size w1 (w1.alloc (oC p.W p.H p.K p.D p.I (.slice e1 e2 e3) (.slice e4 e5 e6) (.slice e7 e8 e9))):=(aV w1.heap.size w1).alloc (ah _) _;have L:au (aA w0.heap.size w0 (w1.alloc (oC p.W p.H p.K p.D p.I (.slice e1 e2 e3) (.slice e4 e5 e6) (.slice e7 e8 e9)))):=(l7.out.trans (a5.mono l7.out.size):aA _ _ _);have b1:au (iJ p (w1.alloc (oC p.W p.H p.K p.D p.I (.slice e1 e2 e3) (.slice e4 e5 e6) (.slice e7 e8 e9))) (pW p.W p.H p.K p.D p.I (.slice e1 e2 e3) (.slice e4 e5 e6) (.slice e7 e8 e9))):=(⟨_,_,_,rfl,HG.out.1.up a5,HG.out.2.1.up a5,HG.out.2.2.up a5,r8.out⟩:iJ _ _ _);obtain⟨r,l8⟩:∃r,r=w1.heap.size:=⟨_,rfl⟩
 rw[<-l8]at HY|-;unfold oC at HY L b1 a5;clear a5 l8 HG;revert HY L b1;generalize w1.alloc _=w2;intro L b1 HY;have l9:au _:=ak HY.out;have j3:au (∀wx,aA w2.heap.size w2 wx->wx.cell? ⟨r,0,none⟩=some (.int .i64 (p.W:Int))/\wx.cell? ⟨r,1,none⟩=some (.int .i64 (p.H:Int))/\wx.cell? ⟨r,2,none⟩=some (.int .i64 (p.K:Int))/\wx.cell? ⟨r,3,none⟩=some (.int .i64 (p.D:Int))/\wx.cell? ⟨r,4,none⟩=some (.bool p.I)/\wx.cell? ⟨r,5,none⟩=some (.slice e1 e2 e3)/\wx.cell? ⟨r,6,none⟩=some (.slice e4 e5 e6)/\wx.cell? ⟨r,7,none⟩=some (.slice e7 e8 e9)):=(fun wx hb=>by have h:=(hb.block _ l9.out).trans HY.out;exact⟨by simpa using(cell_of h 0).1,by simpa using(cell_of h 1).1,by simpa using(cell_of h 2).1,by simpa using(cell_of h 3).1,by simpa using(cell_of h 4).1,by simpa using(cell_of h 5).1,by simpa using(cell_of h 6).1,by simpa using(cell_of h 7).1⟩:∀wx,_)
 have j4:au (∀wx,aA w2.heap.size w2 wx->aA w0.heap.size w0 wx):=(fun wx hb=>L.out.trans (hb.mono L.out.size):∀wx,_);obtain⟨u0,u1,u2,u3,u4,u5,u6,u7,u8,u9⟩:=f7.out w2 L.out;go_wp2_with fail
 refine aU (r3.out w2 (l5.out w2 L.out)) ?_;rintro e w3 ⟨cs,k,rfl,b2,m0,m1⟩;have f8:au _:=m0;clear m0;have r9:au (TJ w3 cs (kC p ds)):=(aaq b2:TJ _ _ _);obtain⟨la,cap,s0⟩:∃la cap,cs= .slice la (kC p ds).length cap:=by obtain⟨la,cap,e,_⟩:=aaq b2;exact⟨la,cap,e⟩
 subst s0;have a6:au _:=m1;have m2:au ((kC p ds).length<=cap):=(ae7 b2:_<=_);have f9:au (w3.ownsRow w2.heap.size 9 1 (.slice la (kC p ds).length cap) (kC p ds).length (nJ (kC p ds))):=(b2:World.ownsRow _ _ _ _ _ _ _);have g0:au _:=aeG p ds;have j5:au _:=aad (.slice la (kC p ds).length cap) (kC p ds) w3 r9.out r7 (by rw[BJ];have:=B.out;rw[l4.out,fF]at this;omega);rw[BJ,<-l4.out]at j5;clear b2 m1 u0 u1 u2 u3 u4 u5 u6 u7 u8 u9;generalize (kC p ds).length=nn at*;dsimp only;go_wp2_with fail
 refine aU j5.out ?_;rintro e j ⟨rfl,s3⟩;subst s3;clear j5;have l:au (∀wx,aA j.heap.size j wx->aA w.heap.size w wx):=(fun wx hb=>l5.out wx (j4.out wx (a6.out.trans (hb.mono a6.out.size))):∀wx,_);have j6:au (∀wx,aA j.heap.size j wx->aA w2.heap.size w2 wx):=(fun wx hb=>a6.out.trans (hb.mono a6.out.size):∀wx,_);obtain⟨u0,u1,u2,u3,u4,u5,u6,u7⟩:=j3.out j a6.out;have j7:au _:=r4.out j _ (l.out j (aV _ _)) (b1.out.up a6.out);unfold pW at j7;go_wp2_with fail
 refine aU j7.out ?_;rintro e w5 ⟨iv,rfl,g5,j8⟩;rw[<-l3.out]at g5;obtain⟨li,ci,s4⟩:∃li ci,iv= .slice li X.length ci:=by obtain⟨li,ci,e,_⟩:=id g5;exact⟨li,ci,e⟩
 subst s4;have j9:au (aA j.heap.size j w5):=(j8:aA _ _ _);have k0:au _:=aaj tx p.W p.H X (.slice li X.length ci) w5 eb fb lb HS.out (J.out.over (l.out w5 j8)) (by have:=B.out;omega) g5 (by omega);clear g5 j8 j7 u0 u1 u2 u3 u4 u5 u6 u7;rw[r0]at k0|-;go_wp2_with fail
 refine aU k0.out ?_;rintro e w6 ⟨rfl,m3⟩;have k1:au (aA j.heap.size j w6):=(j9.out.trans (m3.mono j9.out.size):aA _ _ _);clear m3 k0 j9;go_wp2_with fail
 refine aU (r1.out _) ?_;rintro e w7 ⟨rfl,k3⟩;have k3:=k3.symm;subst k3;go_wp2_with fail
 refine aU (aeD kf _ (by omega)) ?_;rintro e w7 ⟨z4,rfl,x,m4⟩;obtain⟨a7,n7,c7,rfl⟩:=xe x;have b3:au (aA j.heap.size j w7):=(k1.out.trans (m4.mono k1.out.size):aA _ _ _);have m5:au (aH prog 16 #[.string tx,.int .i64 1,.slice a7 n7 c7] w7 fun e w'=> ∃ec:Int,(ec=4\/(ec=2/\33<=kf/\1<M))/\e= .returned (.tuple #[.agg #[.int .i64 0,.int .i64 0,.slice none 0 0],.int .i64 ec])/\aA w7.heap.size w7 w'):=(by
  by_cases m6:M=1
  ·refine aU (aeq tx tx 1 (.slice a7 n7 c7) (aeh kf) w7 eb fb lb p.W p.H X kf (t.out.1.ok 1 (by rw[<-t.out.2];omega) (by omega)) (J.out.over (l.out w7 b3.out)) x (by have:=B.out;omega) (by have:=B.out;omega) (by have:=B.out;omega) (by have:=B.out;omega) (aem kf) (fun i _=>rfl)) ?_;rintro e w' ⟨rfl,hb⟩;exact⟨4,.inl rfl,rfl,hb⟩
  ·refine aU (aeT tx 1 (.slice a7 n7 c7) kf w7 eb fb lb (t.out.1.zn 1 (by omega) (by rw[<-t.out.2];omega)) (J.out.over (l.out w7 b3.out)) x (by have:=B.out;omega) (by have:=B.out;omega)) ?_;rintro e w' ⟨rfl|⟨m7,rfl⟩,hb⟩
   ·exact⟨4,.inl rfl,rfl,hb⟩
   ·exact⟨2,.inr ⟨rfl,m7,by omega⟩,rfl,hb⟩:aH _ _ _ _ _)
 clear x m4;go_wp2_with fail
 refine aU m5.out ?_;rintro e w8 ⟨ec,m8,rfl,m9⟩;have n0:au _:=m8;have g6:au (aA j.heap.size j w8):=(b3.out.trans (m9.mono b3.out.size):aA _ _ _);clear m8 m9 m5 k1 b3;go_upto_region 9 with fail
 have y:au _:=aP w8 (.cells #[.int .i64 0,.int .i64 0,.slice none 0 0] 32);have N:au (aA j.heap.size j (w8.alloc (.cells #[.int .i64 0,.int .i64 0,.slice none 0 0] 32))):=(g6.out.alloc g6.out.size _:aA _ _ _);obtain⟨G,k4⟩:∃G,G=w8.heap.size:=⟨_,rfl⟩;have s5:au (j.heap.size<=G):=(by rw[k4];exact g6.out.size:_<=_);rw[<-k4]at y|-;clear k4 g6;revert y N;generalize w8.alloc _=w9;intro N y;have s6:au (G<w9.heap.size):=(ak y.out:_<_);have y0:w9.cell? ⟨G,0,none⟩=some (.int .i64 0):=by simpa using(cell_of y.out 0).1
 have y1:w9.cell? ⟨G,1,none⟩=some (.int .i64 0):=by simpa using(cell_of y.out 1).1
 have y2:w9.cell? ⟨G,2,none⟩=some (.slice none 0 0):=by simpa using(cell_of y.out 2).1
 obtain⟨u0,u1,u2,u3,u4,u5,u6,u7⟩:=j3.out w9 (j6.out w9 N.out);obtain⟨LB,n5⟩:∃LB:Bool,LB=decide (1<p.W\/1<p.H):=⟨_,rfl⟩;have b4:au _:=n5;clear n5;go_upto_region 11 with fail
 go_cut [13] (fun v wx=>v= .bool LB/\wx=w9)
 case first=>
  by_cases g9:1<p.W
  ·have s7:(1:Int)<(p.W:Int):=by omega
   have HV:au (LB=true):=(by rw[b4.out];simp[g9]:_=_);go_wp2_with fail
   go_meet
   case rel=>exact⟨by rw[HV.out],rfl⟩
  ·have s7:¬((1:Int)<(p.W:Int)):=by omega
   by_cases n6:1<p.H
   ·have s8:(1:Int)<(p.H:Int):=by omega
    have HV:au (LB=true):=(by rw[b4.out];simp[n6]:_=_);go_wp2_with fail
    go_meet
    case rel=>exact⟨by rw[HV.out],rfl⟩
   ·have s8:¬((1:Int)<(p.H:Int)):=by omega
    have HV:au (LB=false):=(by rw[b4.out];simp[g9,n6]:_=_);go_wp2_with fail
    go_meet
    case rel=>exact⟨by rw[HV.out],rfl⟩
 case rest=>
  obtain⟨rfl,b5⟩:=hcut;subst b5;go_upto_region 12 with fail
  go_cut [81] (fun v wx=>v= .bool false/\wx=wc)
  case first=>
   rcases n0.out with he|⟨he,m7,m6⟩
   ·subst he;go_wp2_with fail
    go_meet
    case rel=>exact⟨rfl,rfl⟩
   ·subst he;have s9:LB=true:=by
     rw[b4.out,lX];by_cases g9:1<p.W
     ·exact .inl g9
     ·refine .inr ?_;have h1:p.W<=1:=by omega
      have h2:p.W*p.H<=1*p.H:=dM _ h1;rw[<-t.out.2]at h2;omega
    subst s9;have t0:¬((kf:Int)<33):=by omega
    go_wp2_with fail
    go_meet
    case rel=>exact⟨rfl,rfl⟩
  case rest=>
   obtain⟨rfl,b5⟩:=hcut;have b5:=b5.symm;subst b5;clear y0 y1 y2 u0 u1 u2 u3 u4 u5 u6 u7 n0 b4;have b6:au (aA w2.heap.size w2 wc):=(j6.out wc N.out:aA _ _ _);obtain⟨u0,u1,u2,u3,u4,u5,u6,u7,u8,u9⟩:=f7.out wc (j4.out wc b6.out);obtain⟨x0,x1,x2,x3,x4,x5,x6,x7⟩:=j3.out wc b6.out;have h5:au _:=r5.out wc _ (l.out wc N.out) (b1.out.up b6.out);unfold pW at h5;obtain⟨R,hR⟩:∃R:ByteArray,R=⟨(p.kJ F).toArray⟩:=⟨_,rfl⟩;rw[<-hR]at h5;have z5:R.size<=4000:=by rw[hR,fF,Wk.CZ];exact f6.out.zn F
   obtain⟨m,hm⟩:∃m,m=(pk z 60000).toNat:=⟨_,rfl⟩;have z6:m<60000:=by have:=rF z 60000 (by omega);omega
   have n8:au (∀wx:af,aH prog 22 #[.int .i64 z,.int .i64 60000] wx fun e w'=>e= .returned (.int .i64 (m:Int))/\w'=wx):=(fun wx=>by rw[hm];exact qL z 60000 q9 (by omega) (by omega) wx:∀wx,_);obtain⟨S,hS⟩:∃S:ByteArray,S=⟨(kQ (1+m) R.size R.data.toList).toArray⟩:=⟨_,rfl⟩;have o0:R.data.toList=p.kJ F:=by rw[hR]
   have o1:R.size=(p.kJ F).length:=by rw[hR,fF]
   have z7:S.size<=30000:=by
    rw[hS,fF];have:=yY (1+m) R.size R.data.toList;have h2:R.data.toList.length=R.size:=by simp
    omega
   have i4:au (∀wx:af,aH prog 34 #[.string R,.int .i64 (1+(m:Int))] wx fun e w'=>e= .returned (.string S)/\aA wx.heap.size wx w'):=(fun wx=>by have:=Ib R (1+m) wx (by omega) (by omega) (by omega);rw[hS];rw[show((1+m:Nat):Int)=1+(m:Int)by omega]at this;exact this:∀wx,_)
   obtain⟨Q,hQ⟩:∃Q:ByteArray,Q=OA S R:=⟨_,rfl⟩;have o2:au (∀wx:af,aH prog 25 #[.string S,.string R] wx fun e w'=>e= .returned (.string Q)/\aA wx.heap.size wx w'):=(fun wx=>by rw[hQ];exact OB S R wx (by omega) (by omega):∀wx,_);have o3:au (Q.data.toList=nR (1+m) (p.kJ F)):=(by rw[hQ];unfold OA nR;rw[oK,oK,hS,o0,o1];simp:_=_)
   obtain⟨ls,k5⟩:∃ls,ls=(aej (1+m) (p.kJ F)).length:=⟨_,rfl⟩;have o4:Q.size=ls+1:=by
    have h1:Q.size=Q.data.toList.length:=by simp
    rw[h1,o3.out,aes,aK,k5];rfl
   have y4:ls<=40000:=by
    have h1:Q.size=2+S.size+4:=by rw[hQ];unfold OA;rw[gX,gX,fF];rfl
    omega
   have O:au _:=k5;have t1:au _:=o4;have z8:(Q.size:Int)-1=(ls:Int):=by omega
   clear hm hR hS hQ o0 o1 k5 o4;go_wp2_with fail
   refine aU h5.out ?_;rintro e h6 ⟨rfl,b7⟩;have V:au (aA j.heap.size j h6):=(N.out.trans (b7.mono N.out.size):aA _ _ _);have b8:au _:=(b7.block _ s6.out).trans y.out;clear b7 u0 u1 u2 u3 u4 u5 u6 u7 u8 u9 x0 x1 x2 x3 x4 x5 x6 x7 h5;obtain⟨u0,u1,u2,u3,u4,u5,u6,u7,u8,u9⟩:=f7.out h6 (j4.out h6 (j6.out h6 V.out));clear u0 u1 u2 u3 u4 u5 u6 u7 u8;go_wp2_with fail
   refine aU (n8.out _) ?_;rintro e o5 ⟨rfl,b9⟩;have b9:=b9.symm;subst b9;go_wp2_with fail
   refine aU (i4.out _) ?_;rintro e o5 ⟨rfl,c5⟩;have c6:au (aA j.heap.size j o5):=(V.out.trans (c5.mono V.out.size):aA _ _ _);have c8:au _:=(c5.block _ (ak b8.out)).trans b8.out;clear c5 u9;go_wp2_with fail
   refine aU (o2.out _) ?_;rintro e d ⟨rfl,d0⟩;have u:au (aA j.heap.size j d):=(c6.out.trans (d0.mono c6.out.size):aA _ _ _);have d1:au (d.heap[G]?=some (.cells #[.int .i64 0,.int .i64 0,.slice none 0 0] 32 (0,0))):=((d0.block _ (ak c8.out)).trans c8.out:_=_);clear d0 b8 c8 V c6 y;obtain⟨g3,z9,t2⟩:=y_ f9.out (by have:=g0.out.2;omega);injection t2 with e1 e2 e3
   subst e1;subst e3;clear e2;have o6:k<=nn:=by rw[f8.out];exact g0.out.2
   have A0:k<=cap:=aY o6 m2.out;have t0:(k:Int)<=(cap:Int):=by omega
   obtain⟨Hd,h7⟩:∃Hd:ByteArray,Hd=⟨p.hd.toArray⟩:=⟨_,rfl⟩;have o7:p.hd.length<=2000:=by unfold Wk.hd;have e8:zN.length=8:=rfl;have e4:tX.length=4:=rfl;rw[aK,aK,l_,vV,e8,e4];have:=aar f6.out;omega
   have i5:Hd.size=p.hd.length:=by rw[h7,fF]
   have o8:au (aH prog 28 #[.slice (some ⟨g3,0,none⟩) k cap] d fun e w'=>e= .returned (.string Hd)/\w'=d):=(by
    have t3:=(TJ.take (aaq (jS f9.out u.out)) (k:=k) (by have:=f9.out.1;rw[aai]at this;omega));have t4:((kC p ds).take k).length=k:=by have:=f9.out.1;rw[aai]at this;rw[eH];omega
    have:=aad _ _ d t3 (by rw[t4];omega) (by rw[f8.out,g0.out.1];omega);rw[f8.out,g0.out.1,<-h7,<-f8.out]at this;exact this:aH _ _ _ _ _)
   have o9:au (Hd=⟨p.hd.toArray⟩/\Hd.size=p.hd.length):=(⟨h7,i5⟩:_/\_);have y5:Hd.size<=2000:=by omega
   clear h7 i5 o6 o7;go_wp2_with fail
   refine aU o8.out ?_;rintro e A1 ⟨rfl,d2⟩;have d2:=d2.symm;subst d2;have t5:ls<Q.size:=by rw[t1.out];omega
   have A2:(ls:Int)<=(Q.size:Int):=by omega
   have A3:(ls:Int)<(Q.size:Int):=by omega
   have p0:=(mQ Q ls t5).symm;have k6:=gI.rO Q ls;obtain⟨bq,d3⟩:∃bq,bq=aF Q ls:=⟨_,rfl⟩;rw[<-d3]at p0 k6;obtain⟨f,Y⟩:∃b,b=bq^^^128:=⟨_,rfl⟩;have i6:f<256:=by rw[Y];exact Nat.xor_lt_two_pow (n:=8) k6 (by decide)
   have t6:bits BinOp.xor IntKind.u8 (bq:Int) 128=(f:Int):=by rw[Y];exact u8_xor_nat bq 128 k6 (by omega)
   obtain⟨D,p1⟩:∃D:ByteArray,D=Q.extract 0 ls++⟨#[UInt8.ofNat f]⟩:=⟨_,rfl⟩;have t7:au (bq=aF Q ls/\f=bq^^^128/\D=Q.extract 0 ls++⟨#[UInt8.ofNat f]⟩):=(⟨d3,Y,p1⟩:_/\_/\_);clear d3 Y p1;obtain⟨CI,h8⟩:∃CI:ByteArray,CI=⟨(qV DL (Q.extract 0 ls++⟨#[UInt8.ofNat f]⟩:ByteArray).data.toList).toArray⟩:=⟨_,rfl⟩;obtain⟨CE,h9⟩:∃CE:ByteArray,CE=⟨(qV rE []).toArray⟩:=⟨_,rfl⟩;have A4:(Q.extract 0 ls).size=ls:=by simp;omega
   have p2:(Q.extract 0 ls++⟨#[UInt8.ofNat f]⟩:ByteArray).size=ls+1:=by have h1:(⟨#[UInt8.ofNat f]⟩:ByteArray).size=1:=rfl;rw[gX];omega
   have k7:4<w.heap.size:=aN (by decide) J.out.ng;have i0:au (∀wx,aA d.heap.size d wx->Ci wx/\4<wx.heap.size):=(fun wx hb=>by have h1:=(l.out d u.out).trans (hb.mono (l.out d u.out).size);exact⟨Dc J.out.tab k7 h1,aN k7 h1.size⟩:∀wx,_)
   have p3:au (∀wx,aA d.heap.size d wx->aH prog 35 #[.string ⟨#[73,68,65,84]⟩,.string (Q.extract 0 ls++⟨#[UInt8.ofNat f]⟩)] wx fun e w'=>e= .returned (.string CI)/\aA wx.heap.size wx w'):=(fun wx hb=>by rw[h8];exact vX ⟨#[73,68,65,84]⟩ _ wx (i0.out wx hb).1 (i0.out wx hb).2 rfl (by rw[p2];omega):∀wx,_)
   have p4:au (∀wx,aA d.heap.size d wx->aH prog 35 #[.string ⟨#[73,69,78,68]⟩,.string ⟨#[]⟩] wx fun e w'=>e= .returned (.string CE)/\aA wx.heap.size wx w'):=(fun wx hb=>by rw[h9];exact vX ⟨#[73,69,78,68]⟩ ⟨#[]⟩ wx (i0.out wx hb).1 (i0.out wx hb).2 rfl (by decide):∀wx,_)
   have y6:CI.size<=50000:=by rw[h8,fF,l_];have e4:DL.length=4:=rfl;have h1:(Q.extract 0 ls++⟨#[UInt8.ofNat f]⟩:ByteArray).data.toList.length=ls+1:=(ae6 _).trans p2;omega
   have y7:CE.size<=50000:=by rw[h9,fF,l_];decide
   have p5:au (CI=⟨(qV DL (Q.extract 0 ls++⟨#[UInt8.ofNat f]⟩:ByteArray).data.toList).toArray⟩/\CE=⟨(qV rE []).toArray⟩):=(⟨h8,h9⟩:_/\_);have p6:=fun X:af=>Oz (X.alloc (.cells #[.int .u8 (f:Int)] 5)).drew X.heap.size 1 1 [UInt8.ofNat f] rfl (aeX X f i6);obtain⟨TC,k8⟩:∃TC:ByteArray,TC=Hd++CI++CE:=⟨_,rfl⟩;have y8:TC.size<=200000:=by rw[k8,gX,gX];omega
   have p7:au _:=k8;clear h8 h9 k7 k8;go_upto_region 18 with fail
   go_cut [18] (fun v wx=>v= .string TC/\au (aA d.heap.size d wx))
   case first=>
    have Z:au (aA d.heap.size d d.drew):=((aV _ _).drew:aA _ _ _);have g:au (aA d.heap.size d (d.alloc (.cells #[.int .u8 (f:Int)] 5)).drew):=(((aV d.heap.size d).alloc (ah _) _).drew:aA _ _ _)
    go_region_with (first
     |(go_at_call 35;(with_reducible refine aU (p3.out _ (by first|exact Z.out|exact g.out|exact s|exact s.alloc s.size _)) ?_);rintro e wi ⟨rfl,d4⟩)
     |(go_at_call 35;(with_reducible refine aU (p4.out _ (by first|exact Z.out|exact g.out|exact g.out.trans (d4.mono g.out.size))) ?_);rintro e we ⟨rfl,k9⟩;(first|(have s:aA d.heap.size d we:=Z.out.trans (k9.mono Z.out.size))|(have s:aA d.heap.size d we:=g.out.trans (k9.mono g.out.size))|skip)))
    all_goals
     have t8:au (aA d.heap.size d _):=(by first|exact s.trans (d4.mono s.size)|exact g.out.trans ((d4.trans (k9.mono d4.size)).mono g.out.size)|exact(s.alloc s.size _).trans (d4.mono (s.alloc s.size _).size):aA _ _ _);go_wp2_with fail
     go_meet
     case rel=>exact⟨by rw[p7.out],t8⟩
   case rest=>
    obtain⟨rfl,d5⟩:=hcut;clear p6 t6 p0 p3 p4 o8 n8 i4 o2;have d6:au (TC=⟨(p.text [aek (1+m) (p.kJ F) (aeJ (p.kJ F))]).toArray⟩):=(by
     obtain⟨q1,q2,q3⟩:=t7.out;have p8:Q.data.toList=aej (1+m) (p.kJ F)++[UInt8.ofNat (Jo.one (Ad.oM 1 0 (p.kJ F)))]:=by rw[o3.out,aes]
     have p9:bq=(UInt8.ofNat (Jo.one (Ad.oM 1 0 (p.kJ F)))).toNat:=by rw[q1];unfold aF;rw[p8,ag,fC (by rw[O.out];exact ah _),O.out,iL];rfl
     have t9:(Q.extract 0 ls++⟨#[UInt8.ofNat f]⟩:ByteArray).data.toList=aek (1+m) (p.kJ F) (aeJ (p.kJ F)):=by
      rw[aev,oK,gI.uF];unfold gI.cut;rw[p8,uZ,Nat.sub_zero,List.take_append_of_le_length (by rw[O.out];exact ah _),dn (by rw[O.out];exact ah _)];congr 1
      show [UInt8.ofNat f]=_;congr 1
      apply UInt8.toNat_inj.1;rw[UInt8.toNat_xor,<-p9,dB,gz i6,q2];rfl
     rw[p7.out,p5.out.1,p5.out.2,o9.out.1,t9,p.aeu];apply gK;simp:_=_)
    obtain⟨s2,i1⟩:∃s2:ByteArray,s2=⟨(p.text [nR (1+m) (p.kJ F)]).toArray⟩:=⟨_,rfl⟩;have q0:au (CY s2 1048576 ⟨0,p.W,p.H,X⟩/\CY TC 1048576 ⟨3,0,0,[]⟩):=(by rw[i1,d6.out,l3.out];refine⟨(Wk.Ok.all f6.out F r6.out (1+m) (by omega) (by omega) [nR (1+m) (p.kJ F)] (by simp) (by simp)).ok 1048576 (by rw[<-t.out.2];omega) (by omega),f6.out.afc F (1+m) (by omega) (by omega) (aeJ (p.kJ F)) rfl (aeM (p.kJ F))⟩:_/\_)
    obtain⟨U,v3⟩:∃U,U=Hd.size+8+ls+1:=⟨_,rfl⟩;have y9:(Hd.size:Int)+8+(ls:Int)+1=(U:Int):=by omega
    have z0:1<=U/\U<=100000:=by omega
    obtain⟨k2,q4⟩:∃k2,k2=(pk fz U).toNat:=⟨_,rfl⟩;have z1:k2<U:=by have:=rF fz U (by omega);omega
    have q5:au (∀wx:af,aH prog 22 #[.int .i64 fz,.int .i64 (U:Int)] wx fun e w'=>e= .returned (.int .i64 (k2:Int))/\w'=wx):=(fun wx=>by rw[q4];exact qL fz U l1 (by omega) (by omega) wx:∀wx,_);have a0:au (k2<TC.size/\k2<s2.size/\s2.size<=200000/\∀i,i<k2->aF s2 i=aF TC i):=(by
     have hw:=aeW p (1+m) (p.kJ F);have e1:TC.size=p.hd.length+8+ls+1+4+12:=by rw[d6.out,fF,hw.2,O.out]
     have e2:s2.size=p.hd.length+8+ls+1+4+12:=by rw[i1,fF,hw.1,O.out]
     have e3:=o9.out.2;refine⟨by omega,by omega,by omega,fun i hi=> ?_⟩;rw[i1,d6.out];exact aeN p (1+m) (p.kJ F) i (by rw[<-O.out];omega):_/\_/\_/\_)
    have i2:au (aA j.heap.size j wc):=(u.out.trans (d5.out.mono u.out.size):aA _ _ _);have l0:au (wc.heap[G]?=some (.cells #[.int .i64 0,.int .i64 0,.slice none 0 0] 32 (0,0))):=((d5.out.block _ (ak d1.out)).trans d1.out:_=_);have q6:au _:=ae9 TC wc eb fb lb q0.out.2 (J.out.over (l.out wc i2.out)) (by omega);clear i1 v3 q4 d5 u d1;go_wp2_with fail
    refine aU q6.out ?_;rintro e v5 ⟨rfl,d7⟩;have i7:au (aA j.heap.size j v5):=(i2.out.trans (d7.mono i2.out.size):aA _ _ _);have i9:au _:=(d7.block _ (ak l0.out)).trans l0.out;clear d7 i2 l0 q6;go_wp2_with fail
    refine aU (q5.out _) ?_;rintro e i3 ⟨rfl,d8⟩;have d8:=d8.symm;subst d8;go_wp2_with fail
    refine aU (aeD k2 _ (by omega)) ?_;rintro e i3 ⟨A5,rfl,P,d9⟩;obtain⟨a9,n9,c9,rfl⟩:=xe P;have e0:au (aA j.heap.size j i3):=(i7.out.trans (d9.mono i7.out.size):aA _ _ _);have j0:au _:=(d9.block _ (ak i9.out)).trans i9.out;have q7:au _:=aeq TC s2 1048576 (.slice a9 n9 c9) (aeh k2) i3 eb fb lb p.W p.H X k2 q0.out.1 (J.out.over (l.out i3 e0.out)) P (by omega) (by have:=a0.out.2.2.1;omega) a0.out.1 a0.out.2.1 (aem k2) a0.out.2.2.2;clear P d9;go_wp2_with fail
    refine aU q7.out ?_;rintro e A ⟨rfl,f3⟩;have o:au (A.heap[G]?=some (.cells #[.int .i64 0,.int .i64 0,.slice none 0 0] 32 (0,0))):=((f3.block _ (ak j0.out)).trans j0.out:_=_);have q8:au (aA j.heap.size j A):=(e0.out.trans (f3.mono e0.out.size):aA _ _ _);clear f3 q7;unfold Aq;have y0:A.cell? ⟨G,0,none⟩=some (.int .i64 0):=by simpa using(cell_of o.out 0).1
    have y1:A.cell? ⟨G,1,none⟩=some (.int .i64 0):=by simpa using(cell_of o.out 1).1
    have y2:A.cell? ⟨G,2,none⟩=some (.slice none 0 0):=by simpa using(cell_of o.out 2).1
    have f0:A.frozen? ⟨G,0,none⟩=false:=by simpa using(cell_of o.out 0).2
    have f1:A.frozen? ⟨G,1,none⟩=false:=by simpa using(cell_of o.out 1).2
    have f2:A.frozen? ⟨G,2,none⟩=false:=by simpa using(cell_of o.out 2).2
    have v7:au _:=aed (.int .i64 0) (.int .i64 0) (.slice none 0 0) o.out;have v8:au _:=pY (l.out A q8.out) v7.out.2 (aY (l.out j (aV _ _)).size s5.out) (ah _);go_wp2_with fail
    go_ret;exact⟨rfl,v8.out⟩
end Kp
namespace early
open Go.ChangeShapes Go.WideShapes Go.ChangeAt Go.RowKit
open Go.ChangeMaps (open_string shut_string)
set_option maxRecDepth 100000 in
theorem lifted(os:Os)(started:os.Started)(H:Type)(enc:aW×ay->H):
 ReturnsInHanded {} checked os 10 .any (fun w args=>(Rows.earlySpec.pre enc prog f10 [] false w args/\laidMetH prog BM w)/\sizedMet enc prog f10 (OpenSpec.ofChange Rows.earlySpec) false w args)
  (Rows.earlySpec.post enc prog f10 false true false false):=by
 refine returnsInHanded_of_change_and (C:=checked) (X:=fun w _=>laidMetH prog BM w) (fun _ _ _ G h=>h.of_heap G) own started (by kernel_rfl) func10
  (ChangeSpec.witness_shaped (enc:=enc) (C:=checked) (os:=os) (X:=fun w _=>laidMetH prog BM w) false (World.doorLaid prog 95 os) #[.agg #[.int .i64 0,.int .i64 0,.int .i64 0,.bool false,.slice none 0 0,.bool false,.slice none 0 0,.slice none 0 0,.slice none 0 0,.int .i64 0],.int .i64 0] 8 rfl (World.shaped_of_RefB (by kernel_rfl) (by kernel_rfl)) (by kernel_rfl) (by kernel_rfl) (by kernel_rfl) (WE os _)) ?_
 intro W base args ds gs before d hW _ g J _;have f:∀(j:Nat) t v,f10.params[j]?=some t->args[j]?=some v->Value.okWide prog W .any base t v:=d;have i:(DataW.weightsEach prog (f10.params.toList++Rows.earlySpec.plain.varTypes prog) (ds++gs)).all (· <=reachBytes)=true:=g;have o:=hW;obtain⟨p,q,k,K,rfl,L,M⟩:=hW;have u:DataW.TrodAll enc prog W 0 (fun _=>true) true f10.params.toList args.toList ds p:=k;rw[params10]at u f i;obtain⟨v0,N,d0,O,Q,q0,r,rfl,rfl,h0,R⟩:=trodAll_cons u;obtain⟨v1,U,d1,V,p1,q1,rfl,rfl,rfl,h1,Y⟩:=trodAll_cons R;obtain⟨rfl,rfl,rfl⟩:=trodAll_nil Y;obtain rfl:args= #[v0,v1]:=by cases args;simp_all
 obtain⟨rfl,rfl⟩:=trodVars_none K;have l:∀x∈Q,x.block<W.heap.size:=by obtain⟨fl,s⟩:=h0;exact DataW.trod_lt _ _ _ _ s
 obtain⟨a,b,c,z,I,T,ev,y,fv,pv,E,S,F,P,rfl,A,hS,hF,B,Z,hb,hc,D⟩:=acg (f 0 56 v0 rfl rfl) h0 (fun n hn=>lW (List.all_eq_true.1 i n (DataW.weights_mem_each (j:=0) rfl rfl n hn)));obtain⟨a1,rfl,rfl,rfl,w1⟩:=open_int underlying3 (f 1 3 v1 rfl rfl) h1;obtain⟨eb,fb,lb,hD⟩:=Lp J;clear k d;have hm:=Kp.acf a b c z I T ev y fv pv E S F P W eb fb lb hD Z hb hc D A hS hF B;refine(Kp.aeO _ _ _ a b c z I T ev y fv pv a1 W eb fb lb (Kp.xe A) (Kp.xe hS) (Kp.xe hF) (Kp.xe B) hm hD D (ug w1)).mono fun e W' ⟨he,m⟩=> ?_;subst he;exact⟨_,rfl,_,_,_,[],_,[],o,trodAll_mk1 (shut_bool underlying4 _),trodAll_cons_mk (Below.trod (by kernel_rfl) (by kernel_rfl) (lW (by kernel_rfl)) h0 m l) (trodAll_cons_mk (shut_int underlying3 w1) trodAll_mk0),rfl,m.frame _,fun h=>by cases h⟩
end early
end Go.Proofs.YtephkcdbnogdhaaGreatDoor
