import Derived.Test.YtephkcdbnogdhaaGreatDoorE
set_option linter.unusedVariables false
set_option maxHeartbeats 40000000
set_option maxRecDepth 10000
namespace Go.Proofs.YtephkcdbnogdhaaGreatDoor
open Go.Proofs.Tryz
open Go renaming World->af,Value->ay,Calls->aH,TypeId->aW,Addr->bG
open Go.RowKit renaming Hid->au,Below->aA,intOf->bH
namespace Kp
open Go.RowKit Rf Cr
open Pr
theorem aeU{E:List Int}{e:Nat}(h:ZO E e)(k:Nat)(he:e<=49):∃a,a<=e+1/\ZO (E++[(k:Int)]) a:=by
 by_cases b:k=0
 ·subst b;exact⟨e+1,ah _,h.zero (by omega)⟩
 ·exact⟨0,aX _,h.more (by omega)⟩
theorem aeV(w:af)(n:Nat)(c:n<=1000):gq (w.alloc (.cells (Array.replicate n (Value.int .i64 0)) 3)) (w.alloc (.cells (Array.replicate n (Value.int .i64 0)) 3)).heap.size (.slice (some ⟨w.heap.size,0,none⟩) n n) (List.replicate n 0):=by
 have b:∀i,(List.replicate n (0:Int)).getD i 0=0:=fun i=>by rw[ag,zA];split<;>rfl
 refine⟨some ⟨w.heap.size,0,none⟩,n,by simp,by rw[List.length_replicate];omega,fun i hi=>⟨⟨w.heap.size,0,none⟩,rfl,by simp,?_,by rw[b];omega⟩⟩;have a:i<n:=by simpa using hi
 rw[Addr.add_mid,fQ,(cell_of (aP w (.cells (Array.replicate n (Value.int .i64 0)) 3)) i).1,b];simp[a]
theorem ae4(w:af):gq (w.alloc (.cells (Array.replicate 101 (Value.int .i64 0)) 3)) (w.alloc (.cells (Array.replicate 101 (Value.int .i64 0)) 3)).heap.size (.slice (some ⟨w.heap.size,0,none⟩) 101 101) (List.replicate 101 0):=aeV w 101 (by omega)
def SlI(w wx:af)(i m:Nat)(ea:Option bG)(c:Nat):Prop:=∃e E,EvS w wx m e E ea c/\e<=i%50/\m<=i+i/50
theorem aeI(p:Wk)(F:Nat->Nat)(ds:List (List UInt8))(a b c z:Int)(I T:Bool)(ev sv fv pv k1:ay)(SL:List Int)(fz:Int)(w:af)(eb fb lb:bG)(h1:uu ev)(h2:uu sv)(h3:uu fv)(h4:uu pv)(hm:Made w p F ds z (yz a b c I ev T sv fv pv z) fv)(hD:KT w eb fb lb)(d5:gq w w.heap.size k1 SL)(p8:SL.length<=17592186043904)(d6: -9223372036854775808<=fz/\fz<=9223372036854775807):
 aH prog 9 #[yz a b c I ev T sv fv pv z,k1,.int .i64 fz] w fun e w'=>e= .returned (.bool true)/\aA w.heap.size w w':=by
 obtain⟨a1,n1,c1,rfl⟩:=h1;obtain⟨a2,n2,c2,rfl⟩:=h2;obtain⟨a3,n3,c3,rfl⟩:=h3;obtain⟨a4,n4,c4,rfl⟩:=h4;obtain⟨a5,c5,m2⟩:∃la cap,k1= .slice la SL.length cap:=by obtain⟨la,cap,e,_⟩:=id d5;exact⟨la,cap,e⟩
 subst m2;have g9:=hm.short;have hp:=hm.ok;obtain⟨M,hM⟩:∃M,M=p.W*p.H:=⟨_,rfl⟩;have t7:1<=M:=by rw[hM];exact bD hp.w1 hp.h1
 have t8:M<=400:=by rw[hM];exact bD hp.w2 hp.h2
 obtain⟨X,hX⟩:∃X,X=pU p.q (p.W*p.H):=⟨_,rfl⟩;have p9:X.length=4*M:=by rw[hX,Zw,hM]
 obtain⟨d,h5⟩:∃d:ByteArray,d=⟨(p.text ds).toArray⟩:=⟨_,rfl⟩;obtain⟨tz,h6⟩:∃tz,tz=d.size:=⟨_,rfl⟩;have t0:45<=tz/\tz<=100000:=by rw[h6,h5,fF];exact⟨g9.1,g9.2.1⟩
 have HS:au (CY d 1048576 ⟨0,p.W,p.H,X⟩):=(by rw[h5,hX];exact hm.all.ok 1048576 (by rw[<-hM];omega) (by omega):CY _ _ _);obtain⟨f,m3⟩:∃f,f=(pk fz tz).toNat:=⟨_,rfl⟩;have t1:f<tz:=by have:=rF fz tz (by omega);omega
 have m4:au (∀wx:af,aH prog 22 #[.int .i64 fz,.int .i64 (d.size:Int)] wx fun e w'=>e= .returned (.int .i64 (f:Int))/\w'=wx):=(fun wx=>by rw[m3,<-h6];exact qL fz tz d6 (by omega) (by omega) wx:∀wx,_);have q0:au _:=hm.wk;have q1:au _:=hm.ck;have q2:au _:=hm.im;have q3:=g9.2.2;have q4:au _:=hX;have m5:au _:=h5;have r:au _:=h6;have d7:au _:=hD;have j1:au (gq w w.heap.size (.slice a5 SL.length c5) SL):=(d5:gq _ _ _ _);obtain⟨n5,k2⟩:∃n5,n5=SL.length:=⟨_,rfl⟩;rw[<-k2]at p8|-;have q5:au _:=k2;clear hX h5 hD hp hM hm d5 g9 m3 h6 k2;unfold yz at*;go_enter func9,ntmps9
 go_upto_region 1 with fail
 have HX:au _:=aP w (.cells #[.int .i64 a,.int .i64 b,.int .i64 c,.bool I,.slice a1 n1 c1,.bool T,.slice a2 n2 c2,.slice a3 n3 c3,.slice a4 n4 c4,.int .i64 z] 56);have d8:au (aA w.heap.size w (w.alloc (.cells #[.int .i64 a,.int .i64 b,.int .i64 c,.bool I,.slice a1 n1 c1,.bool T,.slice a2 n2 c2,.slice a3 n3 c3,.slice a4 n4 c4,.int .i64 z] 56))):=((aV _ _).alloc (ah _) _:aA _ _ _);obtain⟨bx,k3⟩:∃bx,bx=w.heap.size:=⟨_,rfl⟩;rw[show(⟨w.heap.size,0,none⟩:bG)=⟨bx,0,none⟩by rw[k3]];rw[<-k3]at HX;have k4:au _:=ak HX.out;revert d8 HX k4;generalize w.alloc _=w0;intro d8 HX k4;have h7:au (∀wx,aA w0.heap.size w0 wx->aA w.heap.size w wx):=(fun wx hb=>d8.out.trans (hb.mono d8.out.size):∀wx,_);have m6:au (∀wx,aA w0.heap.size w0 wx->wx.cell? ⟨bx,0,none⟩=some (.int .i64 a)/\wx.cell? ⟨bx,1,none⟩=some (.int .i64 b)/\wx.cell? ⟨bx,2,none⟩=some (.int .i64 c)/\wx.cell? ⟨bx,3,none⟩=some (.bool I)/\wx.cell? ⟨bx,4,none⟩=some (.slice a1 n1 c1)/\wx.cell? ⟨bx,5,none⟩=some (.bool T)/\wx.cell? ⟨bx,6,none⟩=some (.slice a2 n2 c2)/\wx.cell? ⟨bx,7,none⟩=some (.slice a3 n3 c3)/\wx.cell? ⟨bx,8,none⟩=some (.slice a4 n4 c4)/\wx.cell? ⟨bx,9,none⟩=some (.int .i64 z)):=(fun wx hb=>by have h:=(hb.block _ k4.out).trans HX.out;exact⟨by simpa using(cell_of h 0).1,by simpa using(cell_of h 1).1,by simpa using(cell_of h 2).1,by simpa using(cell_of h 3).1,by simpa using(cell_of h 4).1,by simpa using(cell_of h 5).1,by simpa using(cell_of h 6).1,by simpa using(cell_of h 7).1,by simpa using(cell_of h 8).1,by simpa using(cell_of h 9).1⟩:∀wx,_)
 obtain⟨u0,u1,u2,u3,u4,u5,u6,u7,u8,u9⟩:=m6.out w0 (aV _ _);clear k3;go_wp2_with fail
 refine aU (q0.out w0 d8.out) ?_;rintro e w1 ⟨v,rfl,⟨ev,cv,sv,rfl,g1,g2,g3,g4⟩,m7⟩;obtain⟨e1,e2,e3,rfl⟩:=g1.sl;obtain⟨e4,e5,e6,rfl⟩:=g2.sl;obtain⟨e7,e8,e9,rfl⟩:=g3.sl;have q6:au _:=g4;clear g4;have HG:au (ji w1 w1.heap.size (.slice e1 e2 e3) p.E/\ji w1 w1.heap.size (.slice e4 e5 e6) p.C/\ji w1 w1.heap.size (.slice e7 e8 e9) p.S):=(⟨g1,g2,g3⟩:_/\_/\_);have m8:au _:=m7;clear g1 g2 g3 m7 u0 u1 u2 u3 u4 u5 u6 u7 u8 u9;unfold pW;go_upto_region 2 with fail
 have HY:au _:=aP w1 (oC p.W p.H p.K p.D p.I (.slice e1 e2 e3) (.slice e4 e5 e6) (.slice e7 e8 e9));have d2:aA w1.heap.size w1 (w1.alloc (oC p.W p.H p.K p.D p.I (.slice e1 e2 e3) (.slice e4 e5 e6) (.slice e7 e8 e9))):=(aV w1.heap.size w1).alloc (ah _) _;have b1:au (aA w0.heap.size w0 (w1.alloc (oC p.W p.H p.K p.D p.I (.slice e1 e2 e3) (.slice e4 e5 e6) (.slice e7 e8 e9)))):=(m8.out.trans (d2.mono m8.out.size):aA _ _ _);have h8:au (iJ p (w1.alloc (oC p.W p.H p.K p.D p.I (.slice e1 e2 e3) (.slice e4 e5 e6) (.slice e7 e8 e9))) (pW p.W p.H p.K p.D p.I (.slice e1 e2 e3) (.slice e4 e5 e6) (.slice e7 e8 e9))):=(⟨_,_,_,rfl,HG.out.1.up d2,HG.out.2.1.up d2,HG.out.2.2.up d2,q6.out⟩:iJ _ _ _);obtain⟨O,m9⟩:∃O,O=w1.heap.size:=⟨_,rfl⟩
 rw[<-m9]at HY|-;unfold oC at HY b1 h8 d2;clear d2 m9 HG;revert HY b1 h8;generalize w1.alloc _=w2;intro b1 h8 HY;have n0:au _:=ak HY.out;have q7:au (∀wx,aA w2.heap.size w2 wx->wx.cell? ⟨O,0,none⟩=some (.int .i64 (p.W:Int))/\wx.cell? ⟨O,1,none⟩=some (.int .i64 (p.H:Int))/\wx.cell? ⟨O,2,none⟩=some (.int .i64 (p.K:Int))/\wx.cell? ⟨O,3,none⟩=some (.int .i64 (p.D:Int))/\wx.cell? ⟨O,4,none⟩=some (.bool p.I)/\wx.cell? ⟨O,5,none⟩=some (.slice e1 e2 e3)/\wx.cell? ⟨O,6,none⟩=some (.slice e4 e5 e6)/\wx.cell? ⟨O,7,none⟩=some (.slice e7 e8 e9)):=(fun wx hb=>by have h:=(hb.block _ n0.out).trans HY.out;exact⟨by simpa using(cell_of h 0).1,by simpa using(cell_of h 1).1,by simpa using(cell_of h 2).1,by simpa using(cell_of h 3).1,by simpa using(cell_of h 4).1,by simpa using(cell_of h 5).1,by simpa using(cell_of h 6).1,by simpa using(cell_of h 7).1⟩:∀wx,_)
 have k5:au (∀wx,aA w2.heap.size w2 wx->aA w0.heap.size w0 wx):=(fun wx hb=>b1.out.trans (hb.mono b1.out.size):∀wx,_);obtain⟨u0,u1,u2,u3,u4,u5,u6,u7,u8,u9⟩:=m6.out w2 b1.out;go_wp2_with fail
 refine aU (q1.out w2 (h7.out w2 b1.out)) ?_;rintro e w3 ⟨cs,k,rfl,k6,q8,n6⟩;clear q8;have n7:au (TJ w3 cs (kC p ds)):=(aaq k6:TJ _ _ _);obtain⟨la,cap,q9⟩:∃la cap,cs= .slice la (kC p ds).length cap:=by obtain⟨la,cap,e,_⟩:=aaq k6;exact⟨la,cap,e⟩
 subst q9;have h9:au _:=n6;have k7:au _:=aad (.slice la (kC p ds).length cap) (kC p ds) w3 n7.out q3 (by rw[BJ];have:=r.out;rw[m5.out,fF]at this;omega);rw[BJ,<-m5.out]at k7;clear k6 n6 u0 u1 u2 u3 u4 u5 u6 u7 u8 u9;generalize (kC p ds).length=nn at*;dsimp only;go_wp2_with fail
 refine aU k7.out ?_;rintro e w4 ⟨rfl,r0⟩;subst r0;clear k7 n7;have r1:au (∀wx,aA w4.heap.size w4 wx->aA w.heap.size w wx):=(fun wx hb=>h7.out wx (k5.out wx (h9.out.trans (hb.mono h9.out.size))):∀wx,_);have n9:au (∀wx,aA w4.heap.size w4 wx->∀i,i<n5->∃ad:bG,a5=some ad/\wx.cell? (ad.add i)=some (.int .i64 (SL.getD i 0))/\ -9223372036854775808<=SL.getD i 0/\SL.getD i 0<=9223372036854775807):=(fun wx hb i hi=>by
  obtain⟨la,cap,e,_,h3⟩:=zi j1.out (r1.out wx hb);obtain⟨ad,g1,_,g3,g4⟩:=h3 i (by rw[<-q5.out];exact hi);injection e with e1 _ _
  exact⟨ad,e1.trans g1,g3,g4⟩:∀wx,_)
 clear j1;go_wp2_with fail
 go_loopw [11,12] (fun sv iv wr=> ∃(i m c:Nat) (ea:Option bG),sv= .slice ea m c/\iv= .int .i64 (i:Int)/\i<=n5/\m<=18000000000000/\au (SlI w4 wr i m ea c)) (fun _ iv _=>n5-(bH iv).toNat)
 case atStart=>exact⟨0,0,0,none,rfl,rfl,aX _,by omega,(⟨0,[],EvS.start w4,by omega,by omega⟩:SlI _ _ _ _ _ _)⟩
 case round=>
  obtain⟨i,m,c6,ea,rfl,rfl,hi,t2,i0⟩:=hrel;by_cases o0:i<n5
  ·have r2:(i:Int)<(n5:Int):=by omega
   obtain⟨e,E,G,o1,o2⟩:=i0.out;obtain⟨ad,rfl,r3,r4,r5⟩:=n9.out wr G.bl i o0;have t9:=fun wx=>adh ad n5 c5 i o0 wx;generalize SL.getD i 0=zz at*;obtain⟨k9,o3⟩:∃k9,k9=(pk zz 9).toNat:=⟨_,rfl⟩;have t3:k9<=8:=by have:=rF zz 9 (by omega);omega
   have r6:au (∀wx:af,aH prog 22 #[.int .i64 zz,.int .i64 9] wx fun e w'=>e= .returned (.int .i64 (k9:Int))/\w'=wx):=(fun wx=>by rw[o3];exact qL zz 9 ⟨r4,r5⟩ (by omega) (by omega) wx:∀wx,_);obtain⟨e',r7,j2⟩:=aeU G.even k9 (by omega);have o4:au _:=j2;have b2:au (EvS w4 wr m e E ea c6/\e'<=i%50+1/\m<=i+i/50):=(⟨G,by omega,o2⟩:_/\_/\_);have o5:au _:=G.own;have b3:=G.bl.size;have t4:(i:Int).tmod 50=((i%50:Nat):Int):=by rw[u_ (by omega)];omega
   clear o3 j2 G o1 o2 i0 r7;go_wp2_with fail
   refine aU (r6.out _) ?_;rintro e2 w6 ⟨rfl,k8⟩;have k8:=k8.symm;subst k8;by_cases v3:i%50=49
   ·have r8:(((i%50:Nat):Int)==49)=true:=by rw[mD];omega
    go_upto_if 46 with(first
     |(at_builtin;refine aet rfl _ _ rfl w4.heap.size _ m _ (k9:Int) o5.out rfl rfl (by omega) b3 ?_;intro v' w7 g hg;obtain⟨a7,c7,rfl⟩:=aen g))
    have b7:EvS w4 w7 (m+1) e' (E++[(k9:Int)]) a7 c7:=EvS.next b2.out.1 (by omega) (by omega) o4.out g hg;have o6:au _:=b7.own;have o7:=b7.bl.size;have o8:au _:=b7;clear g hg b7
    go_wp2_with (first
     |(at_builtin;refine aet rfl _ _ rfl w4.heap.size _ (m+1) _ 1 o6.out rfl rfl (by omega) o7 ?_;intro v' w8 g hg;obtain⟨a8,c8,rfl⟩:=aen g))
    have l0:au (SlI w4 w8 (i+1) (m+1+1) a8 c8):=(⟨0,_,EvS.next o8.out (by omega) (by omega) (o8.out.even.more (by omega)) g hg,by omega,by have:=b2.out.2.2;omega⟩:SlI _ _ _ _ _ _);have d9:m+1+1<=18000000000000:=by have:=b2.out.2.2;omega
    clear g hg;go_wp2_with fail
    go_roundw
    case rel=>exact⟨i+1,m+1+1,c8,a8,by go_num,by go_num,by omega,d9,l0⟩
    case measure=>simp[bH];omega
   ·have r8:(((i%50:Nat):Int)==49)=false:=by rw[aI];omega
    go_upto_if 46 with(first
     |(at_builtin;refine aet rfl _ _ rfl w4.heap.size _ m _ (k9:Int) o5.out rfl rfl (by omega) b3 ?_;intro v' w7 g hg;obtain⟨a7,c7,rfl⟩:=aen g))
    have l0:au (SlI w4 w7 (i+1) (m+1) a7 c7):=(⟨e',_,EvS.next b2.out.1 (by omega) (by omega) o4.out g hg,by have:=b2.out.2.1;omega,by have:=b2.out.2.2;omega⟩:SlI _ _ _ _ _ _);have d9:m+1<=18000000000000:=by have:=b2.out.2.2;omega
    clear g hg;go_wp2_with fail
    go_roundw
    case rel=>exact⟨i+1,m+1,c7,a7,by go_num,by go_num,by omega,d9,l0⟩
    case measure=>simp[bH];omega
  ·have r2:¬((i:Int)<(n5:Int)):=by omega
   obtain⟨e,E,G,_,_⟩:=i0.out;have j3:au (gq wr wr.heap.size (.slice ea m c6) E):=(aew G.own (fun x hx=>by have:=G.rng x hx;omega) (by omega):gq _ _ _ _);have o9:au _:=Rt G.even.adS;have b4:au (aA w2.heap.size w2 wr):=(h9.out.trans (G.bl.mono h9.out.size):aA _ _ _);clear G i0 n9;obtain⟨u0,u1,u2,u3,u4,u5,u6,u7⟩:=q7.out wr b4.out;have l1:au _:=q2.out wr _ (h7.out wr (k5.out wr b4.out)) (h8.out.up b4.out);unfold pW at l1;go_wp2_with fail
   refine aU l1.out ?_;rintro e w5 ⟨iv,rfl,i1,l2⟩;rw[<-q4.out]at i1;obtain⟨li,ci,r9⟩:∃li ci,iv= .slice li X.length ci:=by obtain⟨li,ci,e,_⟩:=id i1;exact⟨li,ci,e⟩
   subst r9;have l3:au (uw w5 (.slice li X.length ci) X):=(i1:uw _ _ _);have l4:au (aA w2.heap.size w2 w5):=(b4.out.trans (l2.mono b4.out.size):aA _ _ _);have j4:au (gq w5 w5.heap.size (.slice ea m c6) E):=(zi j3.out l2:gq _ _ _ _);clear i1 l2 l1 u0 u1 u2 u3 u4 u5 u6 u7 j3;rw[p9]at l3|-;go_upto_region 12 with fail
   have d3:au _:=aP w5 (.cells #[.int .i64 (p.W:Int),.int .i64 (p.H:Int),.slice li (4*M) ci] 32);have i2:aA w5.heap.size w5 (w5.alloc (.cells #[.int .i64 (p.W:Int),.int .i64 (p.H:Int),.slice li (4*M) ci] 32)):=(aV w5.heap.size w5).alloc (ah _) _;have e0:au (aA w2.heap.size w2 (w5.alloc (.cells #[.int .i64 (p.W:Int),.int .i64 (p.H:Int),.slice li (4*M) ci] 32))):=(l4.out.trans (i2.mono l4.out.size):aA _ _ _);have i3:au (uw (w5.alloc (.cells #[.int .i64 (p.W:Int),.int .i64 (p.H:Int),.slice li (4*M) ci] 32)) (.slice li (4*M) ci) X):=(uw.below l3.out i2:uw _ _ _);have b8:au (gq (w5.alloc (.cells #[.int .i64 (p.W:Int),.int .i64 (p.H:Int),.slice li (4*M) ci] 32)) (w5.alloc (.cells #[.int .i64 (p.W:Int),.int .i64 (p.H:Int),.slice li (4*M) ci] 32)).heap.size (.slice ea m c6) E):=(zi j4.out i2:gq _ _ _ _);obtain⟨bi,p0⟩:∃bi,bi=w5.heap.size:=⟨_,rfl⟩;rw[<-p0]at d3|-;clear i2 p0 l3 l4 j4;revert d3 e0 i3 b8;generalize w5.alloc _=w6;intro e0 i3 b8 d3;have i4:au (∀wx,aA w6.heap.size w6 wx->aA w.heap.size w wx):=(fun wx hb=>h7.out wx (k5.out wx (e0.out.trans (hb.mono e0.out.size))):∀wx,_);have p1:au _:=Gt d 1048576 (.slice ea m c6) E w6 eb fb lb _ HS.out (d7.out.over (i4.out w6 (aV _ _))) b8.out o9.out (by have:=r.out;omega);go_wp2_with fail
   refine aU p1.out ?_;rintro e w8 ⟨⟨l8,n8,rfl,i5⟩,p2⟩;dsimp only at i5|-;have s0:n8=4*M:=by have:=i5.1;omega
   subst s0;have j5:au _:=i5;have f3:au (aA w6.heap.size w6 w8):=(p2:aA _ _ _);clear i5 p2 p1;go_upto_region 13 with fail
   have U:au _:=aP w8 (.cells #[.int .i64 (p.W:Int),.int .i64 (p.H:Int),.slice l8 (4*M) (4*M)] 32);have i6:aA w8.heap.size w8 (w8.alloc (.cells #[.int .i64 (p.W:Int),.int .i64 (p.H:Int),.slice l8 (4*M) (4*M)] 32)):=(aV w8.heap.size w8).alloc (ah _) _;have d4:au (aA w6.heap.size w6 (w8.alloc (.cells #[.int .i64 (p.W:Int),.int .i64 (p.H:Int),.slice l8 (4*M) (4*M)] 32))):=(f3.out.trans (i6.mono f3.out.size):aA _ _ _);have i7:au _:=Jm (p.W:Int) (p.H:Int) (.slice l8 (4*M) (4*M)) (.slice li (4*M) ci) X (w8.alloc (.cells #[.int .i64 (p.W:Int),.int .i64 (p.H:Int),.slice l8 (4*M) (4*M)] 32)) (vW.dQ (vW.below j5.out i6)) (uw.below (uw.below i3.out f3.out) i6) (by omega);obtain⟨o,l5⟩:∃o,o=w8.heap.size:=⟨_,rfl⟩;have i9:au (w.heap.size<=o):=(by rw[l5];exact(i4.out w8 f3.out).size:_<=_);rw[<-l5]at U|-;clear i6 l5 f3 j5;revert U d4 i7;generalize w8.alloc _=w9;intro d4 i7 U;have j0:au _:=(d4.out.block _ (ak d3.out)).trans d3.out;have u0:w9.cell? ⟨bi,0,none⟩=some (.int .i64 (p.W:Int)):=by simpa using(cell_of j0.out 0).1
   have u1:w9.cell? ⟨bi,1,none⟩=some (.int .i64 (p.H:Int)):=by simpa using(cell_of j0.out 1).1
   have u2:w9.cell? ⟨bi,2,none⟩=some (.slice li (4*M) ci):=by simpa using(cell_of j0.out 2).1
   have y0:w9.cell? ⟨o,0,none⟩=some (.int .i64 (p.W:Int)):=by simpa using(cell_of U.out 0).1
   have y1:w9.cell? ⟨o,1,none⟩=some (.int .i64 (p.H:Int)):=by simpa using(cell_of U.out 1).1
   have y2:w9.cell? ⟨o,2,none⟩=some (.slice l8 (4*M) (4*M)):=by simpa using(cell_of U.out 2).1
   go_wp2_with fail
   refine aU i7.out ?_;rintro e n ⟨rfl,f4⟩;have j6:au (n.heap[o]?=some (.cells #[.int .i64 (p.W:Int),.int .i64 (p.H:Int),.slice l8 (4*M) (4*M)] 32 (0,0))):=((f4.block _ (ak U.out)).trans U.out:_=_);have j7:au (aA w.heap.size w n):=(i4.out n (d4.out.trans (f4.mono d4.out.size)):aA _ _ _);clear f4 i7 u0 u1 u2 y0 y1 y2 U d4 j0 d3 i3 b8 o9 e0 i4;have l6:au (o<n.heap.size):=(ak j6.out:_<_);go_wp2_with fail
   go_loopw [17,18] (fun sv iv wr=> ∃(i c:Nat) (a:Option bG),sv= .slice a i c/\iv= .int .i64 (i:Int)/\i<=f/\au (wr.ownsRow n.heap.size 3 1 (.slice a i c) i (ael (List.replicate i 1)))/\au (aA n.heap.size n wr)) (fun _ iv _=>f-(bH iv).toNat)
   case atStart=>exact⟨0,0,none,rfl,rfl,aX _,(eX _ _ _ _:World.ownsRow _ _ _ _ _ _ _),(aV _ _:aA _ _ _)⟩
   case round=>
    obtain⟨i,c,a,rfl,rfl,hi,HO,HB⟩:=hrel;have b3:=HB.out.size;go_wp2_with fail
    refine aU (m4.out _) ?_;rintro e s3 ⟨rfl,J⟩;have J:=J.symm;subst J;by_cases p3:i<f
    ·have j8:(i:Int)<(f:Int):=by omega
     go_wp2_with (first
      |(at_builtin;refine aeo rfl _ _ rfl n.heap.size _ i _ 1 HO.out rfl rfl (by omega) b3 ?_;intro v' b0 g hg;obtain⟨a4,c4,rfl⟩:=aen g))
     have b4:au (aA n.heap.size n b0):=(lI.mW HB.out (ah _) b3 HO.out hg:aA _ _ _);have s4:au (b0.ownsRow n.heap.size 3 1 (.slice a4 (i+1) c4) (i+1) (ael (List.replicate (i+1) 1))):=(by rw[aey,aep];exact g:World.ownsRow _ _ _ _ _ _ _);clear g hg;go_wp2_with fail
     go_roundw
     case rel=>exact⟨i+1,c4,a4,by go_num,by go_num,by omega,s4,b4⟩
     case measure=>simp[bH];omega
    have j8:¬((i:Int)<(f:Int)):=by omega
    have s5:f=i:=by omega
    subst s5
    go_upto_region 22 with(first
     |(at_builtin;refine aeo rfl _ _ rfl n.heap.size _ f _ (-1) HO.out rfl rfl (by omega) b3 ?_;intro v' b0 g hg;obtain⟨u,c17,rfl⟩:=aen g))
    have V:au (aA n.heap.size n b0):=(lI.mW HB.out (ah _) b3 HO.out hg:aA _ _ _);have p4:au (b0.ownsRow n.heap.size 3 1 (.slice u (f+1) c17) (f+1) (ael (aeh f))):=(by unfold aeh;rw[aep];exact g:World.ownsRow _ _ _ _ _ _ _);have p5:au (b0.heap[o]?=some (.cells #[.int .i64 (p.W:Int),.int .i64 (p.H:Int),.slice l8 (4*M) (4*M)] 32 (0,0))):=((V.out.block _ l6.out).trans j6.out:_=_);have f5:au (aA w.heap.size w b0):=(j7.out.trans (V.out.mono j7.out.size):aA _ _ _);clear g hg V HO HB hi j8 p3;have HD:au _:=aeq d d 1048576 (.slice u (f+1) c17) (aeh f) b0 eb fb lb p.W p.H X f HS.out (d7.out.over f5.out) (aew p4.out (aex f) (by omega)) (by have:=r.out;omega) (by have:=r.out;omega) (by have:=r.out;omega) (by have:=r.out;omega) (aem f) (fun i _=>rfl);go_wp2_with fail
    refine aU HD.out ?_;rintro e wd ⟨rfl,t⟩;have l:au (wd.heap[o]?=some (.cells #[.int .i64 (p.W:Int),.int .i64 (p.H:Int),.slice l8 (4*M) (4*M)] 32 (0,0))):=((t.block _ (ak p5.out)).trans p5.out:_=_);have L:au (wd.ownsRow n.heap.size 3 1 (.slice u (f+1) c17) (f+1) (ael (aeh f))):=(jS p4.out t:World.ownsRow _ _ _ _ _ _ _);have Q:au (aA w.heap.size w wd):=(f5.out.trans (t.mono f5.out.size):aA _ _ _);clear t HD;unfold Aq;have y0:wd.cell? ⟨o,0,none⟩=some (.int .i64 (p.W:Int)):=by simpa using(cell_of l.out 0).1
    have y1:wd.cell? ⟨o,1,none⟩=some (.int .i64 (p.H:Int)):=by simpa using(cell_of l.out 1).1
    have y2:wd.cell? ⟨o,2,none⟩=some (.slice l8 (4*M) (4*M)):=by simpa using(cell_of l.out 2).1
    have f0:wd.frozen? ⟨o,0,none⟩=false:=by simpa using(cell_of l.out 0).2
    have f1:wd.frozen? ⟨o,1,none⟩=false:=by simpa using(cell_of l.out 1).2
    have f2:wd.frozen? ⟨o,2,none⟩=false:=by simpa using(cell_of l.out 2).2
    go_upto_region 25 with fail
    have s:au _:=aed (.int .i64 0) (.int .i64 0) (.slice none 0 0) l.out;revert s;generalize World.setCell _ _ _=wA;intro s;have b9:au (wA.heap[o]?=some (.cells #[.int .i64 0,.int .i64 0,.slice none 0 0] 32 (0,0))):=(s.out.1:_=_);have f6:au (wA.ownsRow n.heap.size 3 1 (.slice u (f+1) c17) (f+1) (ael (aeh f))):=(fE L.out (fun k hk=>s.out.2.block k (World.ownsRow.lt L.out k hk).2 (fun e=>by have:=(World.ownsRow.lt L.out k hk).1;have:=l6.out;omega)):World.ownsRow _ _ _ _ _ _ _);have c9:au (aA w.heap.size w wA):=(pY Q.out s.out.2 i9.out (ah _):aA _ _ _);clear y0 y1 y2 f0 f1 f2 l L Q s;have f7:=run_bytes_of_string (P:=prog) wA 9 45 5 d underlying9 underlying45 underlying5;generalize grownCap wA d.size 0 5=cap at*;have Y:au (Bytes (wA.drew.alloc (.cells (bytesRow d cap) 5 ((bytesRow d cap).size,(bytesRow d cap).size+1))) wA.heap.size d.data.toList):=(aeE wA d cap:Bytes _ _ _);have b5:au (∀i,i<d.size->(wA.drew.alloc (.cells (bytesRow d cap) 5 ((bytesRow d cap).size,(bytesRow d cap).size+1))).frozen? ⟨wA.heap.size,i,none⟩=false):=(fun i hi=>aeH wA d cap i hi:∀i,_);have Z:au (aA wA.heap.size wA (wA.drew.alloc (.cells (bytesRow d cap) 5 ((bytesRow d cap).size,(bytesRow d cap).size+1)))):=((aV _ _).drew.alloc (ah _) _:aA _ _ _);obtain⟨y,b6⟩:∃y,y=wA.heap.size:=⟨_,rfl⟩;rw[<-b6]at f7 Y b5;have a0:au (w.heap.size<=y/\o<y/\(∀k,(Value.slice u (f+1) c17).ownBlock=some k->k<y)):=(by rw[b6];exact⟨c9.out.size,ak b9.out,fun k hk=>(World.ownsRow.lt f6.out k hk).2⟩:_/\_/\_);clear b6;generalize wA.drew.alloc (.cells (bytesRow d cap) 5 ((bytesRow d cap).size,(bytesRow d cap).size+1))=R at*;have f8:au (R.heap[o]?=some (.cells #[.int .i64 0,.int .i64 0,.slice none 0 0] 32 (0,0))):=((Z.out.block _ (ak b9.out)).trans b9.out:_=_);have f9:au (R.ownsRow n.heap.size 3 1 (.slice u (f+1) c17) (f+1) (ael (aeh f))):=(jS f6.out Z.out:World.ownsRow _ _ _ _ _ _ _);have V:au (aA w.heap.size w R):=(c9.out.trans (Z.out.mono c9.out.size):aA _ _ _);clear Z b9 f6 c9;go_upto_region 26 with fail
    clear f7;have t5:1<=d.size:=by have:=r.out;omega
    have t6:d.size<=100000:=by have:=r.out;omega
    have s6:f<=d.size-1:=by have:=r.out;omega
    obtain⟨B0,g0⟩:∃B0:UInt8,B0=d.data.toList.getD (d.size-1) 0:=⟨_,rfl⟩;have l7:R.cell? ⟨y,d.size-1,none⟩=some (.int .u8 ((B0.toNat:Nat):Int)):=by rw[g0];exact Y.out (d.size-1) (by simp;show d.size-1<d.size;omega)
    have d6:R.frozen? ⟨y,d.size-1,none⟩=false:=b5.out (d.size-1) (by omega);obtain⟨B,g5⟩:∃B:UInt8,B=B0^^^1:=⟨_,rfl⟩;have l9:bits BinOp.xor IntKind.u8 ((B0.toNat:Nat):Int) 1=((B.toNat:Nat):Int):=by rw[g5];exact aeP B0
    clear g0 g5;go_upto_region 27 with fail
    have A:au (Bytes (R.setCell ⟨y,d.size-1,none⟩ (.int .u8 ((B.toNat:Nat):Int))) y (d.data.toList.set (d.size-1) B)):=(aeF Y.out (by simp;show d.size-1<d.size;omega) _ B rfl:Bytes _ _ _);have a6:au ((R.setCell ⟨y,d.size-1,none⟩ (.int .u8 ((B.toNat:Nat):Int))).heap[o]?=some (.cells #[.int .i64 0,.int .i64 0,.slice none 0 0] 32 (0,0))):=((aC (d.size-1) _ (by have:=a0.out.2.1;omega)).trans f8.out:_=_);have a9:au ((R.setCell ⟨y,d.size-1,none⟩ (.int .u8 ((B.toNat:Nat):Int))).ownsRow n.heap.size 3 1 (.slice u (f+1) c17) (f+1) (ael (aeh f))):=(fE f9.out (fun k hk=>aC (d.size-1) _ (by have:=a0.out.2.2 k hk;omega)):World.ownsRow _ _ _ _ _ _ _);have N:au (aA w.heap.size w (R.setCell ⟨y,d.size-1,none⟩ (.int .u8 ((B.toNat:Nat):Int)))):=(Below.setCell (p:=⟨y,d.size-1,none⟩) V.out a0.out.1 _:aA _ _ _);clear l7 d6 l9 Y b5 f8 f9 V a0;revert A a6 a9 N;generalize R.setCell _ _=wf;intro A a6 a9 N;have m0:(convert 45 9 (.slice (some ⟨y,0,none⟩) d.size cap)).run prog wf= .ok (.string (aez d (d.size-1) B)) wf:=Oz wf y d.size cap (d.data.toList.set (d.size-1) B) (by simp) A.out;have HD:au _:=aeq (aez d (d.size-1) B) d 1048576 (.slice u (f+1) c17) (aeh f) wf eb fb lb p.W p.H X f HS.out (d7.out.over N.out) (aew a9.out (aex f) (by omega)) (by rw[aer];have:=r.out;omega) (by have:=r.out;omega) (by rw[aer];have:=r.out;omega) (by have:=r.out;omega) (aem f) (fun j hj=>(aeA d (d.size-1) B j (by omega)).symm);clear A;go_wp2_with fail
    refine aU HD.out ?_;clear m0;rintro e wd ⟨rfl,t⟩;have l:au (wd.heap[o]?=some (.cells #[.int .i64 0,.int .i64 0,.slice none 0 0] 32 (0,0))):=((t.block _ (ak a6.out)).trans a6.out:_=_);have L:au (wd.ownsRow n.heap.size 3 1 (.slice u (f+1) c17) (f+1) (ael (aeh f))):=(jS a9.out t:World.ownsRow _ _ _ _ _ _ _);have Q:au (aA w.heap.size w wd):=(N.out.trans (t.mono N.out.size):aA _ _ _);clear t HD;unfold Aq;have y0:wd.cell? ⟨o,0,none⟩=some (.int .i64 0):=by simpa using(cell_of l.out 0).1
    have y1:wd.cell? ⟨o,1,none⟩=some (.int .i64 0):=by simpa using(cell_of l.out 1).1
    have y2:wd.cell? ⟨o,2,none⟩=some (.slice none 0 0):=by simpa using(cell_of l.out 2).1
    have f0:wd.frozen? ⟨o,0,none⟩=false:=by simpa using(cell_of l.out 0).2
    have f1:wd.frozen? ⟨o,1,none⟩=false:=by simpa using(cell_of l.out 1).2
    have f2:wd.frozen? ⟨o,2,none⟩=false:=by simpa using(cell_of l.out 2).2
    go_upto_region 30 with fail
    have s:au _:=aed (.int .i64 0) (.int .i64 0) (.slice none 0 0) l.out;revert s;generalize World.setCell _ _ _=wB;intro s;have d0:au (wB.heap[o]?=some (.cells #[.int .i64 0,.int .i64 0,.slice none 0 0] 32 (0,0))):=(s.out.1:_=_);have g6:au (wB.ownsRow n.heap.size 3 1 (.slice u (f+1) c17) (f+1) (ael (aeh f))):=(fE L.out (fun k hk=>s.out.2.block k (World.ownsRow.lt L.out k hk).2 (fun e=>by have:=(World.ownsRow.lt L.out k hk).1;have:=l6.out;omega)):World.ownsRow _ _ _ _ _ _ _);have d1:au (aA w.heap.size w wB):=(pY Q.out s.out.2 i9.out (ah _):aA _ _ _);clear y0 y1 y2 f0 f1 f2 l L Q s;have f7:=run_bytes_of_string (P:=prog) wB 9 45 5 d underlying9 underlying45 underlying5;generalize grownCap wB d.size 0 5=cap at*;have Y:au (Bytes (wB.drew.alloc (.cells (bytesRow d cap) 5 ((bytesRow d cap).size,(bytesRow d cap).size+1))) wB.heap.size d.data.toList):=(aeE wB d cap:Bytes _ _ _);have b5:au (∀i,i<d.size->(wB.drew.alloc (.cells (bytesRow d cap) 5 ((bytesRow d cap).size,(bytesRow d cap).size+1))).frozen? ⟨wB.heap.size,i,none⟩=false):=(fun i hi=>aeH wB d cap i hi:∀i,_);have Z:au (aA wB.heap.size wB (wB.drew.alloc (.cells (bytesRow d cap) 5 ((bytesRow d cap).size,(bytesRow d cap).size+1)))):=((aV _ _).drew.alloc (ah _) _:aA _ _ _);obtain⟨y,b6⟩:∃y,y=wB.heap.size:=⟨_,rfl⟩;rw[<-b6]at f7 Y b5;have a0:au (w.heap.size<=y/\o<y/\(∀k,(Value.slice u (f+1) c17).ownBlock=some k->k<y)):=(by rw[b6];exact⟨d1.out.size,ak d0.out,fun k hk=>(World.ownsRow.lt g6.out k hk).2⟩:_/\_/\_);clear b6;generalize wB.drew.alloc (.cells (bytesRow d cap) 5 ((bytesRow d cap).size,(bytesRow d cap).size+1))=R at*;have f8:au (R.heap[o]?=some (.cells #[.int .i64 0,.int .i64 0,.slice none 0 0] 32 (0,0))):=((Z.out.block _ (ak d0.out)).trans d0.out:_=_);have f9:au (R.ownsRow n.heap.size 3 1 (.slice u (f+1) c17) (f+1) (ael (aeh f))):=(jS g6.out Z.out:World.ownsRow _ _ _ _ _ _ _);have V:au (aA w.heap.size w R):=(d1.out.trans (Z.out.mono d1.out.size):aA _ _ _);clear Z d0 g6 d1;go_upto_region 31 with fail
    clear f7;clear s6;have v5:(f:Int)<(d.size:Int):=by have:=r.out;omega
    have v7:f<d.size:=by omega
    go_wp2_with fail
    refine aU (m4.out _) ?_;rintro e s3 ⟨rfl,J⟩;have J:=J.symm;subst J;obtain⟨B0,g0⟩:∃B0:UInt8,B0=d.data.toList.getD f 0:=⟨_,rfl⟩;have l7:R.cell? ⟨y,f,none⟩=some (.int .u8 ((B0.toNat:Nat):Int)):=by rw[g0];exact Y.out f (by simp;show f<d.size;omega)
    have d6:R.frozen? ⟨y,f,none⟩=false:=b5.out f (by omega);obtain⟨B,g5⟩:∃B:UInt8,B=B0^^^1:=⟨_,rfl⟩;have l9:bits BinOp.xor IntKind.u8 ((B0.toNat:Nat):Int) 1=((B.toNat:Nat):Int):=by rw[g5];exact aeP B0
    clear g0 g5;go_upto_region 33 with fail
    have A:au (Bytes (R.setCell ⟨y,f,none⟩ (.int .u8 ((B.toNat:Nat):Int))) y (d.data.toList.set f B)):=(aeF Y.out (by simp;show f<d.size;omega) _ B rfl:Bytes _ _ _);have a6:au ((R.setCell ⟨y,f,none⟩ (.int .u8 ((B.toNat:Nat):Int))).heap[o]?=some (.cells #[.int .i64 0,.int .i64 0,.slice none 0 0] 32 (0,0))):=((aC f _ (by have:=a0.out.2.1;omega)).trans f8.out:_=_);have a9:au ((R.setCell ⟨y,f,none⟩ (.int .u8 ((B.toNat:Nat):Int))).ownsRow n.heap.size 3 1 (.slice u (f+1) c17) (f+1) (ael (aeh f))):=(fE f9.out (fun k hk=>aC f _ (by have:=a0.out.2.2 k hk;omega)):World.ownsRow _ _ _ _ _ _ _);have N:au (aA w.heap.size w (R.setCell ⟨y,f,none⟩ (.int .u8 ((B.toNat:Nat):Int)))):=(Below.setCell (p:=⟨y,f,none⟩) V.out a0.out.1 _:aA _ _ _);clear l7 d6 l9 Y b5 f8 f9 V a0;revert A a6 a9 N;generalize R.setCell _ _=wf;intro A a6 a9 N;have m0:(convert 45 9 (.slice (some ⟨y,0,none⟩) d.size cap)).run prog wf= .ok (.string (aez d f B)) wf:=Oz wf y d.size cap (d.data.toList.set f B) (by simp) A.out;have HD:au _:=aeq (aez d f B) d 1048576 (.slice u (f+1) c17) (aeh f) wf eb fb lb p.W p.H X f HS.out (d7.out.over N.out) (aew a9.out (aex f) (by omega)) (by rw[aer];have:=r.out;omega) (by have:=r.out;omega) (by rw[aer];have:=r.out;omega) (by have:=r.out;omega) (aem f) (fun j hj=>(aeA d f B j (by omega)).symm);clear A;go_wp2_with fail
    refine aU HD.out ?_;clear m0;rintro e wd ⟨rfl,t⟩;have l:au (wd.heap[o]?=some (.cells #[.int .i64 0,.int .i64 0,.slice none 0 0] 32 (0,0))):=((t.block _ (ak a6.out)).trans a6.out:_=_);have L:au (wd.ownsRow n.heap.size 3 1 (.slice u (f+1) c17) (f+1) (ael (aeh f))):=(jS a9.out t:World.ownsRow _ _ _ _ _ _ _);have Q:au (aA w.heap.size w wd):=(N.out.trans (t.mono N.out.size):aA _ _ _);clear t HD;unfold Aq;have y0:wd.cell? ⟨o,0,none⟩=some (.int .i64 0):=by simpa using(cell_of l.out 0).1
    have y1:wd.cell? ⟨o,1,none⟩=some (.int .i64 0):=by simpa using(cell_of l.out 1).1
    have y2:wd.cell? ⟨o,2,none⟩=some (.slice none 0 0):=by simpa using(cell_of l.out 2).1
    have f0:wd.frozen? ⟨o,0,none⟩=false:=by simpa using(cell_of l.out 0).2
    have f1:wd.frozen? ⟨o,1,none⟩=false:=by simpa using(cell_of l.out 1).2
    have f2:wd.frozen? ⟨o,2,none⟩=false:=by simpa using(cell_of l.out 2).2
    go_upto_region 36 with fail
    have s:au _:=aed (.int .i64 0) (.int .i64 0) (.slice none 0 0) l.out;revert s;generalize World.setCell _ _ _=wC;intro s;have j9:au (wC.heap[o]?=some (.cells #[.int .i64 0,.int .i64 0,.slice none 0 0] 32 (0,0))):=(s.out.1:_=_);have k0:au (aA w.heap.size w wC):=(pY Q.out s.out.2 i9.out (ah _):aA _ _ _);clear y0 y1 y2 f0 f1 f2 l L Q s;have s7:=aeQ wC 101 101 rfl (by omega);have s8:au (gq (wC.alloc (.cells (Array.replicate 101 (Value.int .i64 0)) 3)) (wC.alloc (.cells (Array.replicate 101 (Value.int .i64 0)) 3)).heap.size (.slice (some ⟨wC.heap.size,0,none⟩) 101 101) (List.replicate 101 0)):=(ae4 wC:gq _ _ _ _);have p6:au (aA wC.heap.size wC (wC.alloc (.cells (Array.replicate 101 (Value.int .i64 0)) 3))):=((aV _ _).alloc (ah _) _:aA _ _ _);have p7:au _:=(p6.out.block _ (ak j9.out)).trans j9.out;have m1:au (aA w.heap.size w (wC.alloc (.cells (Array.replicate 101 (Value.int .i64 0)) 3))):=(k0.out.trans (p6.out.mono k0.out.size):aA _ _ _);have HD:au _:=aeq d d 1048576 (.slice (some ⟨wC.heap.size,0,none⟩) 101 101) (List.replicate 101 0) (wC.alloc (.cells (Array.replicate 101 (Value.int .i64 0)) 3)) eb fb lb p.W p.H X 0 HS.out (d7.out.over m1.out) s8.out (by have:=r.out;omega) (by have:=r.out;omega) (by have:=r.out;omega) (by have:=r.out;omega) aeS (fun j _=>rfl);go_wp2_with fail
    refine aU HD.out ?_;clear s7;rintro e wd ⟨rfl,t⟩;have l:au (wd.heap[o]?=some (.cells #[.int .i64 0,.int .i64 0,.slice none 0 0] 32 (0,0))):=((t.block _ (ak p7.out)).trans p7.out:_=_);have Q:au (aA w.heap.size w wd):=(m1.out.trans (t.mono m1.out.size):aA _ _ _);clear t HD;unfold Aq;have y0:wd.cell? ⟨o,0,none⟩=some (.int .i64 0):=by simpa using(cell_of l.out 0).1
    have y1:wd.cell? ⟨o,1,none⟩=some (.int .i64 0):=by simpa using(cell_of l.out 1).1
    have y2:wd.cell? ⟨o,2,none⟩=some (.slice none 0 0):=by simpa using(cell_of l.out 2).1
    have f0:wd.frozen? ⟨o,0,none⟩=false:=by simpa using(cell_of l.out 0).2
    have f1:wd.frozen? ⟨o,1,none⟩=false:=by simpa using(cell_of l.out 1).2
    have f2:wd.frozen? ⟨o,2,none⟩=false:=by simpa using(cell_of l.out 2).2
    have s:au _:=aed (.int .i64 0) (.int .i64 0) (.slice none 0 0) l.out;have s9:au _:=pY Q.out s.out.2 i9.out (ah _);go_wp2_with fail
    go_ret;exact⟨rfl,s9.out⟩
end Kp
namespace slowly
open Go.ChangeShapes Go.WideShapes Go.ChangeAt Go.RowKit
open Go.ChangeMaps (open_string shut_string)
set_option maxRecDepth 100000 in
theorem lifted(os:Os)(started:os.Started)(H:Type)(enc:aW×ay->H):
 ReturnsInHanded {} checked os 9 .any (fun w args=>(Rows.slowlySpec.pre enc prog f9 [] false w args/\laidMetH prog BM w)/\sizedMet enc prog f9 (OpenSpec.ofChange Rows.slowlySpec) false w args)
  (Rows.slowlySpec.post enc prog f9 false true false false):=by
 refine returnsInHanded_of_change_and (C:=checked) (X:=fun w _=>laidMetH prog BM w) (fun _ _ _ Q h=>h.of_heap Q) own started (by kernel_rfl) func9
  (ChangeSpec.witness_shaped (enc:=enc) (C:=checked) (os:=os) (X:=fun w _=>laidMetH prog BM w) false (World.doorLaid prog 95 os) #[.agg #[.int .i64 0,.int .i64 0,.int .i64 0,.bool false,.slice none 0 0,.bool false,.slice none 0 0,.slice none 0 0,.slice none 0 0,.int .i64 0],.slice none 0 0,.int .i64 0] 8 rfl (World.shaped_of_RefB (by kernel_rfl) (by kernel_rfl)) (by kernel_rfl) (by kernel_rfl) (by kernel_rfl) (WE os _)) ?_
 intro W base args ds gs before f hW _ o R _;have d:∀(j:Nat) t v,f9.params[j]?=some t->args[j]?=some v->Value.okWide prog W .any base t v:=f;have k:(DataW.weightsEach prog (f9.params.toList++Rows.slowlySpec.plain.varTypes prog) (ds++gs)).all (· <=reachBytes)=true:=o;have A:=hW;obtain⟨p,q,r,U,rfl,V,Y⟩:=hW;have J:DataW.TrodAll enc prog W 0 (fun _=>true) true f9.params.toList args.toList ds p:=r;rw[params9]at J d k;obtain⟨v0,Z,d0,a0,p0,q0,B,rfl,rfl,h0,r0⟩:=trodAll_cons J;obtain⟨v1,a1,d1,a3,p1,q1,rfl,rfl,rfl,h1,r1⟩:=trodAll_cons r0;obtain⟨v2,a4,d2,a5,p2,q2,rfl,rfl,rfl,h2,r2⟩:=trodAll_cons r1;obtain⟨rfl,rfl,rfl⟩:=trodAll_nil r2;obtain rfl:args= #[v0,v1,v2]:=by cases args;simp_all
 obtain⟨rfl,rfl⟩:=trodVars_none U;have s:∀x∈p0,x.block<W.heap.size:=by obtain⟨fl,l⟩:=h0;exact DataW.trod_lt _ _ _ _ l
 obtain⟨a,b,c,z,I,T,ev,K,fv,pv,E,S,F,P,rfl,M,hS,hF,N,ha,hb,hc,hz⟩:=acg (d 0 56 v0 rfl rfl) h0 (fun n O=>lW (List.all_eq_true.1 k n (DataW.weights_mem_each (j:=0) rfl rfl n O)));have u:∀x∈p1,x.block<W.heap.size:=by obtain⟨fl,l⟩:=h1;exact DataW.trod_lt _ _ _ _ l
 obtain⟨la,n,cap,L,rfl,D,g,y⟩:=afa (d 1 29 v1 rfl rfl) h1;obtain⟨a2,rfl,rfl,rfl,w2⟩:=open_int underlying3 (d 2 3 v2 rfl rfl) h2;have O:n<=17592186043904:=(by
  rcases y with h|⟨el,sp,rfl,G⟩
  ·omega
  ·have h1:=sized_slice k (j:=1) (t:=29) (e:=3) (elems:=el) (spare:=sp) rfl rfl underlying29;have h2:prog.bytesOf 3=8:=by kernel_rfl
   rw[h2,G]at h1;have h3:reachBytes=140737488351232:=rfl;omega)
 obtain⟨eb,fb,lb,hD⟩:=Lp R;clear r f;have hm:=Kp.acf a b c z I T ev K fv pv E S F P W eb fb lb hD ha hb hc hz M hS hF N;refine(Kp.aeI _ _ _ a b c z I T ev K fv pv (.slice la n cap) L a2 W eb fb lb (Kp.xe M) (Kp.xe hS) (Kp.xe hF) (Kp.xe N) hm hD ⟨la,cap,by rw[D],by omega,fun i hi=>g i (by omega)⟩ (by omega) (ug w2)).mono fun e W' ⟨he,m⟩=> ?_;subst he;exact⟨_,rfl,_,_,_,[],_,[],A,trodAll_mk1 (shut_bool underlying4 _),trodAll_cons_mk (Below.trod (by kernel_rfl) (by kernel_rfl) (lW (by kernel_rfl)) h0 m s) (trodAll_cons_mk (Below.trod (by kernel_rfl) (by kernel_rfl) (lW (by kernel_rfl)) h1 m u) (trodAll_cons_mk (shut_int underlying3 w2) trodAll_mk0)),rfl,m.frame _,fun h=>by cases h⟩
end slowly
end Go.Proofs.YtephkcdbnogdhaaGreatDoor
