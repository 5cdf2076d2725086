import Derived.Carry
import Derived.ChangeOld
import Derived.SevenTiedAt
import Derived.ShutString
import Derived.Test.YtephkcdbnogdhabGreatDoorF
set_option linter.unusedVariables false
set_option maxHeartbeats 40000000
set_option maxRecDepth 10000
namespace Go.Proofs.YtephkcdbnogdhabGreatDoor
open Go.Proofs.Tryz
open Go renaming World->af,Value->ay,Calls->aH,TypeId->aW,Addr->bG
open Go.RowKit renaming Hid->au,Below->aA
namespace Kp
open Go.RowKit Rf Cr
open Pr
open gI (bQ bz gQ)
theorem afZ{w:af}{base n:Nat}{la:Option bG}{cap:Nat}{xs:List ay}(h:w.ownsRow base 9 1 (.slice la n cap) n xs):n<=cap:=by
 rcases h.2 with⟨e,h0⟩|⟨g,a,cur,e,_,_,b,_⟩
 ·omega
 ·injection e with _ _ e3
  omega
theorem or4(a c d e:Nat)(h0:a<256)(h1:c<256)(h2:d<256)(j:e<256):bits BinOp.or IntKind.i64 (bits BinOp.or IntKind.i64 (bits BinOp.or IntKind.i64 ((a:Int)*16777216) ((c:Int)*65536)) ((d:Int)*256)) (e:Int)=((16777216*a+65536*c+256*d+e:Nat):Int):=by
 have f:bits BinOp.or IntKind.i64 ((a:Int)*16777216) ((c:Int)*65536)=((65536*(256*a+c):Nat):Int):=by have h:=zU (2^24*a) (c*65536) (by omega) (by omega);rw[<-jZ (i:=24) (b:=c*65536) (by omega) a]at h;rw[show((a:Int)*16777216)=((2^24*a:Nat):Int)by omega,show((c:Int)*65536)=((c*65536:Nat):Int)by omega,h];congr 1;omega
 have g:bits BinOp.or IntKind.i64 ((65536*(256*a+c):Nat):Int) ((d:Int)*256)=((256*(65536*a+256*c+d):Nat):Int):=by have h:=zU (2^16*(256*a+c)) (d*256) (by omega) (by omega);rw[<-jZ (i:=16) (b:=d*256) (by omega) (256*a+c)]at h;rw[show((65536*(256*a+c):Nat):Int)=((2^16*(256*a+c):Nat):Int)by omega,show((d:Int)*256)=((d*256:Nat):Int)by omega,h];congr 1;omega
 rw[f,g];have h:=zU (2^8*(65536*a+256*c+d)) e (by omega) (by omega);rw[<-jZ (i:=8) (b:=e) (by omega) (65536*a+256*c+d)]at h;rw[show((256*(65536*a+256*c+d):Nat):Int)=((2^8*(65536*a+256*c+d):Nat):Int)by omega,h];congr 1;omega
theorem af0(a:Int)(n:Nat)(h: -9223372036854775808<=a/\a<=9223372036854775807)(d:1<=n): -9223372036854775808<=a.tdiv n/\a.tdiv n<=9223372036854775807:=by
 by_cases h0:0<=a
 ·have h1:0<=a.tdiv n:=Int.tdiv_nonneg h0 (by omega);have h2:a.tdiv n<=a:=by rw[ve h0];exact Int.ediv_le_self _ h0
  omega
 ·obtain⟨b,hb⟩:∃b:Int,b= -a:=⟨_,rfl⟩;have c:0<=b:=by omega
  have e:a.tdiv n= -(b.tdiv n):=by rw[hb,Int.neg_tdiv];omega
  have h1:0<=b.tdiv n:=Int.tdiv_nonneg c (by omega);have h2:b.tdiv n<=b:=by rw[ve c];exact Int.ediv_le_self _ c
  omega
theorem agc(a:UInt8)(n:Nat)(h1:1<=n)(h2:n<256):(a^^^UInt8.ofNat n).toNat≠a.toNat:=fun h=>by
 rw[UInt8.toNat_xor,dB]at h;have b:a.toNat^^^(a.toNat^^^(n%2^8))=a.toNat^^^a.toNat:=by rw[h]
 rw[<-Nat.xor_assoc,Nat.xor_self,Nat.zero_xor]at b;omega
theorem agj(a:UInt8)(n:Nat)(h:n<255):bits BinOp.xor IntKind.u8 ((a.toNat:Nat):Int) (1+(n:Int))=(((a^^^UInt8.ofNat (1+n)).toNat:Nat):Int):=by have h1:=u8_xor_nat a.toNat (1+n) a.toNat_lt (by omega);rw[UInt8.toNat_xor,dB,show(1+n)%2^8=1+n by omega];rw[show(1+(n:Int))=((1+n:Nat):Int)by omega];exact h1
theorem agd(n:Nat)(h:n<255):IntKind.u8.wrap (IntKind.i64.wrap (1+(n:Int)))=1+(n:Int):=by rw[show IntKind.i64.wrap (1+(n:Int))=1+(n:Int)by rw[eY];omega,IntKind.wrap_u8];omega
theorem age{w:af}{base n:Nat}{v:ay}{xs:List ay}(h:w.ownsRow base 9 1 v n xs):∃la cap,v= .slice la n cap:=by
 rcases h.2 with⟨e,h0⟩|⟨g,a,cur,e,_⟩
 ·subst h0;exact⟨none,0,e⟩
 ·exact⟨_,_,e⟩
theorem af1(s:ByteArray)(k i:Nat)(h:i<k)(a:k<=s.size):aF (s.extract 0 k) i=aF s i:=by
 unfold aF;congr 1
 rw[ag,ag];simp[ByteArray.data_extract,h]
theorem afD(p:Wk)(F:Nat->Nat)(ds:List (List UInt8))(a b c z:Int)(I T:Bool)(ev sv fv pv:ay)(wh bi fz:Int)(w:af)(eb fb lb:bG)(h1:uu ev)(h2:uu sv)(h3:uu fv)(h4:uu pv)(hm:Made w p F ds z (yz a b c I ev T sv fv pv z) fv)(hD:KT w eb fb lb)(t3: -9223372036854775808<=z/\z<=9223372036854775807)(j8: -9223372036854775808<=wh/\wh<=9223372036854775807)(n8: -9223372036854775808<=bi/\bi<=9223372036854775807)(n9: -9223372036854775808<=fz/\fz<=9223372036854775807):
 aH prog 3 #[yz a b c I ev T sv fv pv z,.int .i64 wh,.int .i64 bi,.int .i64 fz] w fun e w'=>e= .returned (.bool true)/\aA w.heap.size w w':=by
 obtain⟨a1,n1,c1,rfl⟩:=h1;obtain⟨a2,n2,c2,rfl⟩:=h2;obtain⟨a3,n3,c3,rfl⟩:=h3;obtain⟨a4,n4,c4,rfl⟩:=h4;have d4:=hm.short;have hp:=hm.ok;obtain⟨M,hM⟩:∃M,M=p.W*p.H:=⟨_,rfl⟩;have t4:1<=M:=by rw[hM];exact bD hp.w1 hp.h1
 have t5:M<=400:=by rw[hM];exact bD hp.w2 hp.h2
 have r4:=hp.w2;have r5:=hp.h2;obtain⟨X,hX⟩:∃X,X=pU p.q (p.W*p.H):=⟨_,rfl⟩;have o0:X.length=4*M:=by rw[hX,Zw,hM]
 obtain⟨tx,b5⟩:∃tx:ByteArray,tx=⟨(p.text ds).toArray⟩:=⟨_,rfl⟩;obtain⟨tz,d5⟩:∃tz,tz=tx.size:=⟨_,rfl⟩;have r6:45<=tz/\tz<=100000:=by rw[d5,b5,fF];exact⟨d4.1,d4.2.1⟩
 have HS:au (CY tx 1048576 ⟨0,p.W,p.H,X⟩):=(by rw[b5,hX];exact hm.all.ok 1048576 (by rw[<-hM];omega) (by omega):CY _ _ _);obtain⟨kf,j9⟩:∃kf,kf=(pk fz tz).toNat:=⟨_,rfl⟩;have r7:kf<tz:=by have:=rF fz tz (by omega);omega
 have o1:au (∀wx:af,aH prog 10 #[.int .i64 fz,.int .i64 (tx.size:Int)] wx fun e w'=>e= .returned (.int .i64 (kf:Int))/\w'=wx):=(fun wx=>by rw[j9,<-d5];exact qL fz tz n9 (by omega) (by omega) wx:∀wx,_);have o2:au _:=hm.wk;have o3:au _:=hm.ck;have o4:au _:=hm.im;have t6:au _:=hm.rw;have r8:au (BK tx p.W p.H X/\M=p.W*p.H):=(⟨by rw[b5,hX];exact hm.all,hM⟩:_/\_);have k0:au _:=hp;have t7:au _:=hm.fil;have t8:au (ds≠[]/\ds.length<=21):=(⟨hm.ne,hm.zn⟩:_/\_);have k1:au _:=afU hm.ok F _ hm.flat;have k2:=d4.2.2;have o5:au _:=hX;have b6:au _:=b5;have J:au _:=d5;have g5:au _:=hD;clear hX b5 hD hp hM hm d4 j9 d5;unfold yz at*;go_enter func3,ntmps3
 go_upto_region 1 with fail
 have HX:au _:=aP w (.cells #[.int .i64 a,.int .i64 b,.int .i64 c,.bool I,.slice a1 n1 c1,.bool T,.slice a2 n2 c2,.slice a3 n3 c3,.slice a4 n4 c4,.int .i64 z] 24);have b7:au (aA w.heap.size w (w.alloc (.cells #[.int .i64 a,.int .i64 b,.int .i64 c,.bool I,.slice a1 n1 c1,.bool T,.slice a2 n2 c2,.slice a3 n3 c3,.slice a4 n4 c4,.int .i64 z] 24))):=((aV _ _).alloc (ah _) _:aA _ _ _);obtain⟨Z,g6⟩:∃Z,Z=w.heap.size:=⟨_,rfl⟩;rw[show(⟨w.heap.size,0,none⟩:bG)=⟨Z,0,none⟩by rw[g6]];rw[<-g6]at HX;have g9:au _:=ak HX.out;revert b7 HX g9;generalize w.alloc _=w0;intro b7 HX g9;have k3:au (∀wx,aA w0.heap.size w0 wx->aA w.heap.size w wx):=(fun wx hb=>b7.out.trans (hb.mono b7.out.size):∀wx,_);have k4:au (∀wx,aA w0.heap.size w0 wx->wx.cell? ⟨Z,0,none⟩=some (.int .i64 a)/\wx.cell? ⟨Z,1,none⟩=some (.int .i64 b)/\wx.cell? ⟨Z,2,none⟩=some (.int .i64 c)/\wx.cell? ⟨Z,3,none⟩=some (.bool I)/\wx.cell? ⟨Z,4,none⟩=some (.slice a1 n1 c1)/\wx.cell? ⟨Z,5,none⟩=some (.bool T)/\wx.cell? ⟨Z,6,none⟩=some (.slice a2 n2 c2)/\wx.cell? ⟨Z,7,none⟩=some (.slice a3 n3 c3)/\wx.cell? ⟨Z,8,none⟩=some (.slice a4 n4 c4)/\wx.cell? ⟨Z,9,none⟩=some (.int .i64 z)):=(fun wx hb=>by have h:=(hb.block _ g9.out).trans HX.out;exact⟨by simpa using(cell_of h 0).1,by simpa using(cell_of h 1).1,by simpa using(cell_of h 2).1,by simpa using(cell_of h 3).1,by simpa using(cell_of h 4).1,by simpa using(cell_of h 5).1,by simpa using(cell_of h 6).1,by simpa using(cell_of h 7).1,by simpa using(cell_of h 8).1,by simpa using(cell_of h 9).1⟩:∀wx,_)
 obtain⟨u0,u1,u2,u3,u4,u5,u6,u7,u8,u9⟩:=k4.out w0 (aV _ _);clear g6;go_wp2_with fail
 refine aU (o2.out w0 b7.out) ?_;rintro e w1 ⟨v,rfl,⟨ev,cv,sv,rfl,g1,g2,g3,g4⟩,k5⟩;obtain⟨e1,e2,e3,rfl⟩:=g1.sl;obtain⟨e4,e5,e6,rfl⟩:=g2.sl;obtain⟨e7,e8,e9,rfl⟩:=g3.sl;have o6:au _:=g4;clear g4;have HG:au (ji w1 w1.heap.size (.slice e1 e2 e3) p.E/\ji w1 w1.heap.size (.slice e4 e5 e6) p.C/\ji w1 w1.heap.size (.slice e7 e8 e9) p.S):=(⟨g1,g2,g3⟩:_/\_/\_);have k6:au _:=k5;clear g1 g2 g3 k5 u0 u1 u2 u3 u4 u5 u6 u7 u8 u9;unfold pW;go_upto_region 2 with fail
 have HY:au _:=aP w1 (oC p.W p.H p.K p.D p.I (.slice e1 e2 e3) (.slice e4 e5 e6) (.slice e7 e8 e9));have a0:aA w1.heap.size w1 (w1.alloc (oC p.W p.H p.K p.D p.I (.slice e1 e2 e3) (.slice e4 e5 e6) (.slice e7 e8 e9))):=(aV w1.heap.size w1).alloc (ah _) _;have L:au (aA w0.heap.size w0 (w1.alloc (oC p.W p.H p.K p.D p.I (.slice e1 e2 e3) (.slice e4 e5 e6) (.slice e7 e8 e9)))):=(k6.out.trans (a0.mono k6.out.size):aA _ _ _);have d6:au (iJ p (w1.alloc (oC p.W p.H p.K p.D p.I (.slice e1 e2 e3) (.slice e4 e5 e6) (.slice e7 e8 e9))) (pW p.W p.H p.K p.D p.I (.slice e1 e2 e3) (.slice e4 e5 e6) (.slice e7 e8 e9))):=(⟨_,_,_,rfl,HG.out.1.up a0,HG.out.2.1.up a0,HG.out.2.2.up a0,o6.out⟩:iJ _ _ _);obtain⟨s,k7⟩:∃s,s=w1.heap.size:=⟨_,rfl⟩
 rw[<-k7]at HY|-;unfold oC at HY L d6 a0;clear a0 k7 HG;revert HY L d6;generalize w1.alloc _=w2;intro L d6 HY;have k8:au _:=ak HY.out;have o7:au (∀wx,aA w2.heap.size w2 wx->wx.cell? ⟨s,0,none⟩=some (.int .i64 (p.W:Int))/\wx.cell? ⟨s,1,none⟩=some (.int .i64 (p.H:Int))/\wx.cell? ⟨s,2,none⟩=some (.int .i64 (p.K:Int))/\wx.cell? ⟨s,3,none⟩=some (.int .i64 (p.D:Int))/\wx.cell? ⟨s,4,none⟩=some (.bool p.I)/\wx.cell? ⟨s,5,none⟩=some (.slice e1 e2 e3)/\wx.cell? ⟨s,6,none⟩=some (.slice e4 e5 e6)/\wx.cell? ⟨s,7,none⟩=some (.slice e7 e8 e9)):=(fun wx hb=>by have h:=(hb.block _ k8.out).trans HY.out;exact⟨by simpa using(cell_of h 0).1,by simpa using(cell_of h 1).1,by simpa using(cell_of h 2).1,by simpa using(cell_of h 3).1,by simpa using(cell_of h 4).1,by simpa using(cell_of h 5).1,by simpa using(cell_of h 6).1,by simpa using(cell_of h 7).1⟩:∀wx,_)
 have o8:au (∀wx,aA w2.heap.size w2 wx->aA w0.heap.size w0 wx):=(fun wx hb=>L.out.trans (hb.mono L.out.size):∀wx,_);obtain⟨u0,u1,u2,u3,u4,u5,u6,u7,u8,u9⟩:=k4.out w2 L.out;go_wp2_with fail
 refine aU (o3.out w2 (k3.out w2 L.out)) ?_;rintro e w3 ⟨cs,k,rfl,b8,k9,l0⟩;have t9:au _:=k9;clear k9;have o9:au (TJ w3 cs (kC p ds)):=(aaq b8:TJ _ _ _);obtain⟨la,cap,p0⟩:∃la cap,cs= .slice la (kC p ds).length cap:=by obtain⟨la,cap,e,_⟩:=aaq b8;exact⟨la,cap,e⟩
 subst p0;have a5:au _:=l0;have r9:au ((kC p ds).length<=cap):=(afZ b8:_<=_);have l1:au (w3.ownsRow w2.heap.size 9 1 (.slice la (kC p ds).length cap) (kC p ds).length (nJ (kC p ds))):=(b8:World.ownsRow _ _ _ _ _ _ _);have h5:au _:=aad (.slice la (kC p ds).length cap) (kC p ds) w3 o9.out k2 (by rw[BJ];have:=J.out;rw[b6.out,fF]at this;omega);rw[BJ,<-b6.out]at h5;clear b8 l0 u0 u1 u2 u3 u4 u5 u6 u7 u8 u9;have l2:au (1<=(kC p ds).length):=(by unfold kC;simp:1<=_);generalize (kC p ds).length=r at*;dsimp only;go_wp2_with fail
 refine aU h5.out ?_;rintro e o ⟨rfl,p1⟩;subst p1;clear h5;have a6:au (∀wx,aA o.heap.size o wx->aA w.heap.size w wx):=(fun wx hb=>k3.out wx (o8.out wx (a5.out.trans (hb.mono a5.out.size))):∀wx,_);have v5:au (∀wx,aA o.heap.size o wx->aA w2.heap.size w2 wx):=(fun wx hb=>a5.out.trans (hb.mono a5.out.size):∀wx,_);obtain⟨u0,u1,u2,u3,u4,u5,u6,u7⟩:=o7.out o a5.out;have h6:au _:=o4.out o _ (a6.out o (aV _ _)) (d6.out.up a5.out);unfold pW at h6;go_wp2_with fail
 refine aU h6.out ?_;rintro e w5 ⟨iv,rfl,d7,h7⟩;rw[<-o5.out]at d7;obtain⟨li,ci,p2⟩:∃li ci,iv= .slice li X.length ci:=by obtain⟨li,ci,e,_⟩:=id d7;exact⟨li,ci,e⟩
 subst p2;have h8:au (aA o.heap.size o w5):=(h7:aA _ _ _);have h9:au _:=aaj tx p.W p.H X (.slice li X.length ci) w5 eb fb lb HS.out (g5.out.over (a6.out w5 h7)) (by have:=J.out;omega) d7 (by omega);clear d7 h7 h6 u0 u1 u2 u3 u4 u5 u6 u7;rw[o0]at h9|-;go_wp2_with fail
 refine aU h9.out ?_;rintro e w6 ⟨rfl,l3⟩;have d8:au (aA o.heap.size o w6):=(h8.out.trans (l3.mono h8.out.size):aA _ _ _);clear l3 h9 h8;have f6:au (∀(b:ByteArray) wx,b=tx.extract 0 kf->aA o.heap.size o wx->aH prog 9 #[.string b] wx fun e w'=>e= .returned (.bool true)/\aA wx.heap.size wx w'):=(fun b wx hb hx=>by
  subst hb;have hz:(tx.extract 0 kf).size=kf:=by have:=J.out;simp;omega
  refine ae9 _ wx eb fb lb (k0.out.agb ds k1.out (by rw[hz];have:=J.out;rw[b6.out,fF]at this;omega) (fun i hi=> ?_)) (g5.out.over (a6.out wx hx)) (by omega);rw[hz]at hi;rw[af1 tx kf i hi (by have:=J.out;omega),b6.out]:∀(b:ByteArray) wx,_)
 have l4:(kf:Int)<=(tx.size:Int):=by have:=J.out;omega
 go_wp2_with fail
 refine aU (o1.out _) ?_;rintro e t ⟨rfl,i0⟩;have i0:=i0.symm;subst i0;go_wp2_with fail
 refine aU (f6.out _ _ rfl d8.out) ?_;rintro e t ⟨rfl,l5⟩;have d9:au (aA o.heap.size o t):=(d8.out.trans (l5.mono d8.out.size):aA _ _ _);clear l5 d8 f6 l4;obtain⟨g,s4,p3⟩:=y_ l1.out (by have:=l2.out;omega);injection p3 with p4 p5 p6
 subst p4 p6;clear p5;have s5:1<=r/\r<=1000:=⟨by have:=l2.out;omega,k2⟩;obtain⟨kw,l6⟩:∃kw,kw=(pk wh r).toNat:=⟨_,rfl⟩;have b9:kw<r:=by have:=rF wh r (by omega);omega
 have p7:au (∀wx:af,aH prog 10 #[.int .i64 wh,.int .i64 (r:Int)] wx fun e w'=>e= .returned (.int .i64 (kw:Int))/\w'=wx):=(fun wx=>by rw[l6];exact qL wh r j8 (by omega) (by omega) wx:∀wx,_);clear l6;obtain⟨f1,p8,p9,R⟩:=afM l1.out;obtain⟨f,dn,i1,i2,l7,c5⟩:=afC k0.out ds k1.out kw (by rw[f1];exact b9);obtain⟨fr,a7⟩:∃fr,fr=if kw=0 then 12 else 4:=⟨_,rfl⟩
 rw[<-a7]at i2 l7 c5;have U:=fun i x=>afY (kC p ds) kw i x (by rw[f1];exact b9);rw[i1,BJ]at U;have q4:(p.text ds).length<=100000:=by have:=J.out;rw[b6.out,fF]at this;omega
 have s6:f.size<=100000:=by have:=(U 0 0).2;omega
 have q5:au (∀i x,(tZ ((kC p ds).take kw++aez f i x::(kC p ds).drop (kw+1))).length<=100000):=(fun i x=>by have:=(U i x).1;omega:∀i x,_);have f7:(kw=0/\fr=12)\/(kw≠0/\fr=4):=by
  by_cases h:kw=0
  ·rw[aG h]at a7;exact .inl ⟨h,a7⟩
  ·rw[ax h]at a7;exact .inr ⟨h,a7⟩
 have i3:au _:=f7;have c6:au _:=c5;have q6:au _:=i2;have l8:au (∀wx,aA o.heap.size o wx->∀j,j<r->wx.cell? ⟨g,j,none⟩=some (.string ((kC p ds).getD j ByteArray.empty))):=(fun wx hb j hj=>(hb.cell (p:=⟨g,j,none⟩) p8).trans (R j hj):∀wx,_);have q7:t.cell? ⟨g,kw,none⟩=some (.string f):=by rw[<-i1];exact l8.out t d9.out kw b9
 have f2:au _:=f1;clear a7 f7 c5 i2 i1 U q4 R f1;have l9:=run_bytes_of_string (P:=prog) t 9 39 5 f underlying9 underlying39 underlying5;generalize grownCap t f.size 0 5=d at*;have m0:au (Bytes (t.drew.alloc (.cells (bytesRow f d) 5 ((bytesRow f d).size,(bytesRow f d).size+1))) t.heap.size f.data.toList):=(aeE t f d:Bytes _ _ _);have m1:au (∀i,i<f.size->(t.drew.alloc (.cells (bytesRow f d) 5 ((bytesRow f d).size,(bytesRow f d).size+1))).frozen? ⟨t.heap.size,i,none⟩=false):=(fun i hi=>aeH t f d i hi:∀i,_);have m2:au (aA t.heap.size t (t.drew.alloc (.cells (bytesRow f d) 5 ((bytesRow f d).size,(bytesRow f d).size+1)))):=((aV _ _).drew.alloc (ah _) _:aA _ _ _);have f3:au (t.heap.size<(t.drew.alloc (.cells (bytesRow f d) 5 ((bytesRow f d).size,(bytesRow f d).size+1))).heap.size):=(by simp:_<_);obtain⟨m,i4⟩:∃m,m=t.heap.size:=⟨_,rfl⟩;rw[<-i4]at l9 m0 m1 f3;have q8:au (o.heap.size<=m):=(by rw[i4];exact d9.out.size:_<=_);clear i4;generalize t.drew.alloc (.cells (bytesRow f d) 5 ((bytesRow f d).size,(bytesRow f d).size+1))=l at*;have m3:au (aA o.heap.size o l):=(d9.out.trans (m2.out.mono d9.out.size):aA _ _ _);have c7:au (∀wx,aA l.heap.size l wx->Bytes wx m f.data.toList/\∀i,i<f.size->wx.frozen? ⟨m,i,none⟩=false):=(fun wx hb=>⟨fun i hi=>(hb.cell (p:=⟨m,i,none⟩) f3.out).trans (m0.out i hi),fun i hi=>by have h:=m1.out i hi;unfold World.frozen? at h|-;rw[show wx.heap[(⟨m,i,none⟩:bG).block]?=l.heap[(⟨m,i,none⟩:bG).block]? from hb.block _ f3.out];exact h⟩:∀wx,_)
 clear m2;go_wp2_with fail
 refine aU (p7.out _) ?_;rintro e w8 ⟨rfl,N⟩;have N:=N.symm;subst N;go_upto_if 54 with fail
 clear q7 l9;go_cut [17] (fun v wx=>v= .int .i64 (fr:Int)/\wx=l)
 case first=>
  rcases i3.out with⟨h,h2⟩|⟨h,h2⟩
  ·have hI:(kw:Int)=0:=by omega
   have HV:au _:=h2;clear h h2;go_wp2_with fail
   go_meet
   case rel=>exact⟨by rw[HV.out];rfl,rfl⟩
  ·have hI:¬((kw:Int)=0):=by omega
   have HV:au _:=h2;clear h h2;go_wp2_with fail
   go_meet
   case rel=>exact⟨by rw[HV.out];rfl,rfl⟩
 case rest=>
  obtain⟨rfl,i5⟩:=hcut;have i5:=i5.symm;subst i5;go_upto_region 13 with fail
  go_cut [18] (fun v wx=>v= .int .i64 (dn:Int)/\au (aA l.heap.size l wx))
  case first=>
   have key:∀y:Nat,y+4=fr->∃b0 b1 b2 b3:Nat,b0<256/\b1<256/\b2<256/\b3<256/\dn=16777216*b0+65536*b1+256*b2+b3/\∀wx,aA l.heap.size l wx->wx.cell? ⟨m,y,none⟩=some (.int .u8 (b0:Int))/\wx.cell? ⟨m,y+1,none⟩=some (.int .u8 (b1:Int))/\wx.cell? ⟨m,y+2,none⟩=some (.int .u8 (b2:Int))/\wx.cell? ⟨m,y+3,none⟩=some (.int .u8 (b3:Int)):=fun y v7=>by
    refine⟨aF f y,aF f (y+1),aF f (y+2),aF f (y+3),gI.rO _ _,gI.rO _ _,gI.rO _ _,gI.rO _ _,?_,fun wx hb=> ?_⟩
    ·rw[<-q6.out,show fr-4=y by omega];rfl
    ·have h:=(c7.out wx hb).1;exact⟨h y (by rw[aff];omega),h (y+1) (by rw[aff];omega),h (y+2) (by rw[aff];omega),h (y+3) (by rw[aff];omega)⟩
   rcases i3.out with⟨h,h2⟩|⟨h,h2⟩
   ·obtain⟨b0,b1,b2,b3,q0,q1,q2,q3,hd,hq⟩:=key 8 (by omega);have HD:au _:=hd;have HQ:au _:=hq;clear h hd hq key;subst h2;have v0:l.cell? ⟨m,8,none⟩=some (.int .u8 (b0:Int)):=(HQ.out l (aV _ _)).1;have v1:l.cell? ⟨m,9,none⟩=some (.int .u8 (b1:Int)):=(HQ.out l (aV _ _)).2.1;have v2:l.cell? ⟨m,10,none⟩=some (.int .u8 (b2:Int)):=(HQ.out l (aV _ _)).2.2.1;have v3:l.cell? ⟨m,11,none⟩=some (.int .u8 (b3:Int)):=(HQ.out l (aV _ _)).2.2.2;have s8:(8:Int)<(f.size:Int):=by omega
    have s9:(9:Int)<(f.size:Int):=by omega
    have v8:(10:Int)<(f.size:Int):=by omega
    have v9:(11:Int)<(f.size:Int):=by omega
    have e8:IntKind.i64.wrap (8:Int)=8:=by decide
    have e9:IntKind.i64.wrap (9:Int)=9:=by decide
    have w9:IntKind.i64.wrap (10:Int)=10:=by decide
    have x0:IntKind.i64.wrap (11:Int)=11:=by decide
    have i6:au _:=or4 b0 b1 b2 b3 q0 q1 q2 q3;go_quiet (fail)
    have O:au (aA l.heap.size l (l.drewN nq)):=(lI.lJ (aV _ _):aA _ _ _);revert O;generalize l.drewN nq=wq;intro O;go_wp2_with fail
    go_meet
    case rel=>exact⟨by rw[i6.out,<-HD.out],O⟩
   ·obtain⟨b0,b1,b2,b3,q0,q1,q2,q3,hd,hq⟩:=key 0 (by omega);have HD:au _:=hd;have HQ:au _:=hq;clear h hd hq key;subst h2;have v0:l.cell? ⟨m,0,none⟩=some (.int .u8 (b0:Int)):=(HQ.out l (aV _ _)).1;have v1:l.cell? ⟨m,1,none⟩=some (.int .u8 (b1:Int)):=(HQ.out l (aV _ _)).2.1;have v2:l.cell? ⟨m,2,none⟩=some (.int .u8 (b2:Int)):=(HQ.out l (aV _ _)).2.2.1;have v3:l.cell? ⟨m,3,none⟩=some (.int .u8 (b3:Int)):=(HQ.out l (aV _ _)).2.2.2;have s0:(0:Int)<(f.size:Int):=by omega
    have s1:(1:Int)<(f.size:Int):=by omega
    have s2:(2:Int)<(f.size:Int):=by omega
    have s3:(3:Int)<(f.size:Int):=by omega
    have e0:IntKind.i64.wrap (0:Int)=0:=by decide
    have e1:IntKind.i64.wrap (1:Int)=1:=by decide
    have e2:IntKind.i64.wrap (2:Int)=2:=by decide
    have e3:IntKind.i64.wrap (3:Int)=3:=by decide
    have i6:au _:=or4 b0 b1 b2 b3 q0 q1 q2 q3;go_quiet (fail)
    have O:au (aA l.heap.size l (l.drewN nq)):=(lI.lJ (aV _ _):aA _ _ _);revert O;generalize l.drewN nq=wq;intro O;go_wp2_with fail
    go_meet
    case rel=>exact⟨by rw[i6.out,<-HD.out],O⟩
  case rest=>
   obtain⟨rfl,c8⟩:=hcut;have x1:¬((r:Int)=0):=by omega
   have s7:dn<=100000:=by omega
   obtain⟨ip,m4⟩:∃ip,ip=(pk (wh.tdiv r) ((dn+8:Nat):Int)).toNat:=⟨_,rfl⟩;have t0:ip<dn+8:=by have:=rF (wh.tdiv r) ((dn+8:Nat):Int) (by omega);omega
   have m5:au (∀wx:af,aH prog 10 #[.int .i64 (wh.tdiv r),.int .i64 ((dn:Int)+8)] wx fun e w'=>e= .returned (.int .i64 (ip:Int))/\w'=wx):=(fun wx=>by have h:=qL (wh.tdiv r) (dn+8) (af0 wh r j8 (by omega)) (by omega) (by omega) wx;rw[<-m4,show((dn+8:Nat):Int)=(dn:Int)+8 by omega]at h;exact h:∀wx,_)
   clear m4;go_wp2_with fail
   refine aU (m5.out _) ?_;rintro e w8 ⟨rfl,N⟩;have N:=N.symm;subst N;clear m5;have t1:fr<=12:=by rcases i3.out with⟨_,h⟩|⟨_,h⟩<;>omega
   obtain⟨ii,q9⟩:∃ii,ii=fr+ip:=⟨_,rfl⟩;have x2:(fr:Int)+(ip:Int)=(ii:Int):=by omega
   have m6:fr<=ii/\ii<fr+dn+8:=by omega
   clear q9;go_upto_region 15 with fail
   have i7:ii<f.size:=by omega
   have t2:(ii:Int)<(f.size:Int):=by omega
   obtain⟨ax,m7⟩:∃ax,ax=(pk bi 255).toNat:=⟨_,rfl⟩;have f8:ax<255:=by have:=rF bi 255 (by omega);omega
   have m8:au (∀wx:af,aH prog 10 #[.int .i64 bi,.int .i64 255] wx fun e w'=>e= .returned (.int .i64 (ax:Int))/\w'=wx):=(fun wx=>by rw[m7];exact qL bi 255 n8 (by omega) (by omega) wx:∀wx,_);clear m7;obtain⟨B0,i9⟩:∃B0:UInt8,B0=f.data.toList.getD ii 0:=⟨_,rfl⟩;obtain⟨A,j0⟩:∃A:UInt8,A=B0^^^UInt8.ofNat (1+ax):=⟨_,rfl⟩;have c9:au (aA l.heap.size l wc.drew):=(c8.out.drew:aA _ _ _);have v0:wc.drew.cell? ⟨m,ii,none⟩=some (.int .u8 ((B0.toNat:Nat):Int)):=by rw[i9];exact(c7.out _ c9.out).1 ii (by rw[aff];exact i7)
   have y:wc.drew.frozen? ⟨m,ii,none⟩=false:=(c7.out _ c9.out).2 ii i7;have r0:au (A.toNat≠aF f ii):=(by rw[j0];show(B0^^^UInt8.ofNat (1+ax)).toNat≠(f.data.toList.getD ii 0).toNat;rw[<-i9];exact agc B0 (1+ax) (by omega) (by omega):_≠_);have r1:au (bits BinOp.xor IntKind.u8 ((B0.toNat:Nat):Int) (IntKind.u8.wrap (IntKind.i64.wrap (1+(ax:Int))))=((A.toNat:Nat):Int)):=(by rw[j0,agd ax f8];exact agj B0 ax f8:_=_);clear i9 j0;go_cut [19] (fun v wx=>v= .int .i64 (ii:Int)/\au (Bytes wx m (f.data.toList.set ii A))/\au (aA o.heap.size o wx)/\au (l.heap.size<=wx.heap.size))
   case first=>
    go_region_with (first
     |(go_at_call 10;(with_reducible refine aU (m8.out _) ?_);rintro e wi ⟨rfl,r2⟩;subst r2))
    all_goals
     have HY:au (Bytes (wc.setCell ⟨m,ii,none⟩ (.int .u8 (bits BinOp.xor IntKind.u8 ((B0.toNat:Nat):Int) (IntKind.u8.wrap (IntKind.i64.wrap (1+(ax:Int))))))).drew m (f.data.toList.set ii A)):=(aeF ((c7.out wc c8.out).1) (by rw[aff];exact i7) _ A r1.out:Bytes _ _ _);have HZ:au (aA o.heap.size o (wc.setCell ⟨m,ii,none⟩ (.int .u8 (bits BinOp.xor IntKind.u8 ((B0.toNat:Nat):Int) (IntKind.u8.wrap (IntKind.i64.wrap (1+(ax:Int))))))).drew):=((Below.setCell (p:=⟨m,ii,none⟩) (m3.out.trans (c8.out.mono m3.out.size)) q8.out _).drew:aA _ _ _);have j1:au (l.heap.size<=(wc.setCell ⟨m,ii,none⟩ (.int .u8 (bits BinOp.xor IntKind.u8 ((B0.toNat:Nat):Int) (IntKind.u8.wrap (IntKind.i64.wrap (1+(ax:Int))))))).drew.heap.size):=(by simpa using c8.out.size:_<=_);revert HY HZ j1;generalize World.drew (World.setCell _ _ _)=wn;intro HY HZ j1;go_wp2_with fail
     go_meet
     case rel=>exact⟨rfl,HY,HZ,j1⟩
   case rest=>
    obtain⟨rfl,m9,n,n0⟩:=hcut;have n5:au (∀wx,aA wc.heap.size wc wx->Bytes wx m (f.data.toList.set ii A)):=(fun wx hb i hi=>(hb.cell (p:=⟨m,i,none⟩) (by have:=f3.out;have:=n0.out;show m<_;omega)).trans (m9.out i hi):∀wx,_);have f9:au (∀wx,aA wc.heap.size wc wx->∀j,j<r->wx.cell? ⟨g,j,none⟩=some (.string ((kC p ds).getD j ByteArray.empty))):=(fun wx hb=>l8.out wx (n.out.trans (hb.mono n.out.size)):∀wx,_);have l4:(kw:Int)<=(cap:Int):=by omega
    have x3:(kw:Int)<=(r:Int):=by omega
    have x4:(kw:Int)+1<=(r:Int):=by omega
    have HR:au (CY ⟨(tZ ((kC p ds).take kw++aez f ii A::(kC p ds).drop (kw+1))).toArray⟩ 1048576 ⟨3,0,0,[]⟩):=(c6.out ii A m6.1 m6.2 r0.out:CY _ _ _);clear v0 y c8 c9 c7 c6 m8
    go_upto_region 18 with(first
     |(at_builtin;refine afm rfl _ _ rfl wc.heap.size _ 0 [] g 0 kw _ ((kC p ds).take kw) (eX _ _ _ _) (by intro j hj;rw[fQ,f9.out wc (aV _ _) j (by omega),ag,ag,dh hj]) (by rw[eH,f2.out];omega) rfl rfl (by omega) (ah _) ?_;intro va wA f4 n6;rw[fQ,yD]at f4;obtain⟨lA,cA,rfl⟩:=age f4))
    have f5:au (aA wc.heap.size wc wA):=((aV wc.heap.size wc).grown n6 (ah _) (fun k hk=>by simp[Value.ownBlock]at hk):aA _ _ _);have j2:au _:=f4;have d0:=f5.out.size;clear f4 n6;have r3:(convert 39 9 (.slice (some ⟨m,0,none⟩) f.size d)).run prog wA= .ok (.string (aez f ii A)) wA:=Oz wA m f.size d (f.data.toList.set ii A) (by simp) (n5.out wA f5.out)
    go_upto_region 19 with(first
     |(at_builtin;refine t_ rfl _ _ rfl wc.heap.size _ kw _ (aez f ii A) j2.out rfl rfl (by omega) d0 ?_;intro vb wB j3 n7;obtain⟨gB,cB,rfl⟩:=y_ j3 (by omega)))
    have a8:au (aA wc.heap.size wc wB):=(lI.mW f5.out (ah _) d0 j2.out n7:aA _ _ _);have a9:au _:=j3;have V:=a8.out.size;clear j3 n7 j2 f5 d0 r3;have Y:au (∀(gC cC:Nat) (wC:af),wC.ownsRow wc.heap.size 9 1 (.slice (some ⟨gC,0,none⟩) (kw+1+(r-(kw+1))) cC) (kw+1+(r-(kw+1))) (nJ ((kC p ds).take kw)++[.string (aez f ii A)]++nJ ((kC p ds).drop (kw+1)))->aA wc.heap.size wc wC->∃B:ByteArray,B.size<=100000/\CY B 1048576 ⟨3,0,0,[]⟩/\aH prog 6 #[.slice (some ⟨gC,0,none⟩) (kw+1+(r-(kw+1))) cC] wC fun e w'=>e= .returned (.string B)/\w'=wC):=(fun gC cC wC ho hb=>by
     have hl:=q5.out ii A;refine⟨_,by rw[fF];exact hl,HR.out,?_⟩;have e:nJ ((kC p ds).take kw)++[.string (aez f ii A)]++nJ ((kC p ds).drop (kw+1))=nJ ((kC p ds).take kw++aez f ii A::(kC p ds).drop (kw+1)):=by simp[nJ]
     rw[e]at ho;exact aad _ _ wC (aaq ho) (by rw[aK,dF,eH,jm,f2.out];omega) (by omega):∀(gC cC:Nat) (wC:af),_)
    have g0:au (∀(b:ByteArray) wx,CY b 1048576 ⟨3,0,0,[]⟩->b.size<=100000->aA wc.heap.size wc wx->aH prog 9 #[.string b] wx fun e w'=>e= .returned (.bool true)/\aA wx.heap.size wx w'):=(fun b wx hA hs hb=>ae9 b wx eb fb lb hA (g5.out.over (a6.out wx (n.out.trans (hb.mono n.out.size)))) (by omega):∀(b:ByteArray) wx,_);by_cases hz:cap=kw+1
    ·subst hz
     go_upto_region 20 with(first
      |(at_builtin;refine afm rfl _ _ rfl wc.heap.size _ (kw+1) _ g 0 0 _ [] a9.out (by intro j hj;omega) rfl rfl rfl (by omega) V ?_;intro vc wC G d1;rw[cO]at G;obtain⟨gC,cC,rfl⟩:=y_ G (by omega)))
     have u:au (aA wc.heap.size wc wC):=(a8.out.grown d1 V (fun k hk=>(World.ownsRow.lt a9.out k hk).1):aA _ _ _);have e0:r-(kw+1)=0:=by omega
     have ed:(kC p ds).drop (kw+1)=[]:=List.drop_eq_nil_of_le (by rw[f2.out];omega);obtain⟨B,j4,d2,b4⟩:=Y.out gC cC wC (by rw[e0,cO,ed];exact G) u.out;rw[e0,cO]at b4;clear e0 ed;have j5:au _:=b4;have j6:au _:=d2;clear b4 d2 G d1 a9 a8 Y;go_wp2_with fail
     refine aU j5.out ?_;rintro e wD ⟨rfl,Q⟩;have Q:=Q.symm;subst Q;go_wp2_with fail
     refine aU (g0.out B _ j6.out j4 u.out) ?_;rintro e wE ⟨rfl,d3⟩;have j7:au (aA wc.heap.size wc wE):=(u.out.trans (d3.mono u.out.size):aA _ _ _);clear d3;go_wp2_with fail
     go_ret;exact⟨rfl,a6.out _ (n.out.trans (j7.out.mono n.out.size))⟩
    ·go_upto_region 20 with(first
      |(at_builtin;refine afm rfl _ _ rfl wc.heap.size _ (kw+1) _ g (kw+1) (r-(kw+1)) _ ((kC p ds).drop (kw+1)) a9.out (by intro j hj;rw[f9.out wB a8.out (kw+1+j) (by omega),ag,ag,gJ]) (by rw[jm,f2.out]) rfl rfl (by omega) V ?_;intro vc wC G d1;obtain⟨gC,cC,rfl⟩:=y_ G (by omega)))
     have u:au (aA wc.heap.size wc wC):=(a8.out.grown d1 V (fun k hk=>(World.ownsRow.lt a9.out k hk).1):aA _ _ _);obtain⟨B,j4,d2,b4⟩:=Y.out gC cC wC G u.out;have j5:au _:=b4;have j6:au _:=d2;clear b4 d2 G d1 a9 a8 Y;go_wp2_with fail
     refine aU j5.out ?_;rintro e wD ⟨rfl,Q⟩;have Q:=Q.symm;subst Q;go_wp2_with fail
     refine aU (g0.out B _ j6.out j4 u.out) ?_;rintro e wE ⟨rfl,d3⟩;have j7:au (aA wc.heap.size wc wE):=(u.out.trans (d3.mono u.out.size):aA _ _ _);clear d3;go_wp2_with fail
     go_ret;exact⟨rfl,a6.out _ (n.out.trans (j7.out.mono n.out.size))⟩
end Kp
namespace spoilt
open Go.ChangeShapes Go.WideShapes Go.ChangeAt Go.RowKit
open Go.ChangeMaps (open_string shut_string)
set_option maxRecDepth 100000 in
theorem lifted(os:Os)(started:os.Started)(H:Type)(enc:aW×ay->H):
 ReturnsInHanded {} checked os 3 .any (fun w args=>(Rows.spoiltSpec.pre enc prog f3 [] false w args/\laidMetH prog BM w)/\sizedMet enc prog f3 (OpenSpec.ofChange Rows.spoiltSpec) false w args)
  (Rows.spoiltSpec.post enc prog f3 false true false false):=by
 refine returnsInHanded_of_change_and (C:=checked) (X:=fun w _=>laidMetH prog BM w) (fun _ _ _ J h=>h.of_heap J) own started (by kernel_rfl) func3
  (ChangeSpec.witness_shaped (enc:=enc) (C:=checked) (os:=os) (X:=fun w _=>laidMetH prog BM w) false (World.doorLaid prog 95 os) #[.agg #[.int .i64 0,.int .i64 0,.int .i64 0,.bool false,.slice none 0 0,.bool false,.slice none 0 0,.slice none 0 0,.slice none 0 0,.int .i64 0],.int .i64 0,.int .i64 0,.int .i64 0] 8 rfl (World.shaped_of_RefB (by kernel_rfl) (by kernel_rfl)) (by kernel_rfl) (by kernel_rfl) (by kernel_rfl) (WE os _)) ?_
 intro W base args ds gs before f hW _ g K _;have d:∀(j:Nat) t v,f3.params[j]?=some t->args[j]?=some v->Value.okWide prog W .any base t v:=f;have i:(DataW.weightsEach prog (f3.params.toList++Rows.spoiltSpec.plain.varTypes prog) (ds++gs)).all (· <=reachBytes)=true:=g;have o:=hW;obtain⟨p,q,k,L,rfl,M,N⟩:=hW;have u:DataW.TrodAll enc prog W 0 (fun _=>true) true f3.params.toList args.toList ds p:=k;rw[params3]at u d i;obtain⟨v0,O,d0,Q,R,q0,r,rfl,rfl,h0,U⟩:=trodAll_cons u;obtain⟨v1,V,d1,Y,p1,q1,rfl,rfl,rfl,h1,Z⟩:=trodAll_cons U;obtain⟨v2,a0,d2,a4,p2,q2,rfl,rfl,rfl,h2,r2⟩:=trodAll_cons Z;obtain⟨y,a5,d3,a6,p3,q3,rfl,rfl,rfl,h3,r3⟩:=trodAll_cons r2;obtain⟨rfl,rfl,rfl⟩:=trodAll_nil r3;obtain rfl:args= #[v0,v1,v2,y]:=by cases args;simp_all
 obtain⟨rfl,rfl⟩:=trodVars_none L;have l:∀x∈R,x.block<W.heap.size:=by obtain⟨fl,s⟩:=h0;exact DataW.trod_lt _ _ _ _ s
 obtain⟨a,b,c,z,I,T,ev,A,fv,pv,E,S,F,P,rfl,B,hS,hF,D,ha,hb,hc,G⟩:=acg (d 0 24 v0 rfl rfl) h0 (fun n hn=>lW (List.all_eq_true.1 i n (DataW.weights_mem_each (j:=0) rfl rfl n hn)));obtain⟨a1,rfl,rfl,rfl,w1⟩:=open_int underlying3 (d 1 3 v1 rfl rfl) h1;obtain⟨a2,rfl,rfl,rfl,w2⟩:=open_int underlying3 (d 2 3 v2 rfl rfl) h2;obtain⟨a3,rfl,rfl,rfl,w3⟩:=open_int underlying3 (d 3 3 y rfl rfl) h3;obtain⟨eb,fb,lb,hD⟩:=Lp K;clear k f;have hm:=Kp.acf a b c z I T ev A fv pv E S F P W eb fb lb hD ha hb hc G B hS hF D;refine(Kp.afD _ _ _ a b c z I T ev A fv pv a1 a2 a3 W eb fb lb (Kp.xe B) (Kp.xe hS) (Kp.xe hF) (Kp.xe D) hm hD G (ug w1) (ug w2) (ug w3)).mono fun e W' ⟨he,m⟩=> ?_;subst he;exact⟨_,rfl,_,_,_,[],_,[],o,trodAll_mk1 (shut_bool underlying4 _),trodAll_cons_mk (Below.trod (by kernel_rfl) (by kernel_rfl) (lW (by kernel_rfl)) h0 m l) (trodAll_cons_mk (shut_int underlying3 w1) (trodAll_cons_mk (shut_int underlying3 w2) (trodAll_cons_mk (shut_int underlying3 w3) trodAll_mk0))),rfl,m.frame _,fun h=>by cases h⟩
end spoilt
end Go.Proofs.YtephkcdbnogdhabGreatDoor
