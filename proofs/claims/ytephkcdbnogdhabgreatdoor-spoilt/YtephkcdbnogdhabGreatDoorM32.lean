import Derived.Test.YtephkcdbnogdhabGreatDoorM28
import Derived.Test.YtephkcdbnogdhabGreatDoorM30
set_option linter.unusedVariables false
set_option maxHeartbeats 40000000
set_option maxRecDepth 10000
namespace Go.Proofs.YtephkcdbnogdhabGreatDoor
open Go.Proofs.Tryz
open Go renaming World->af,Value->ay,Calls->aH,Addr->bG
open Go.RowKit renaming Hid->au,Below->aA
namespace Kp
open Go.RowKit Rf Cr
open Pr
open gI (mY iU)
theorem Ru(a b c z:Int)(I T:Bool)(ev sv fv pv:ay)(E S:List Int)(w:af)(ha: -9223372036854775808<=a/\a<=9223372036854775807)(hb: -9223372036854775808<=b/\b<=9223372036854775807)(hc: -9223372036854775808<=c/\c<=9223372036854775807)(hz: -9223372036854775808<=z/\z<=9223372036854775807)(hE:gq w w.heap.size ev E)(hS:gq w w.heap.size sv S)(h3:uu fv)(h4:uu pv):
 aH prog 4 #[yz a b c I ev T sv fv pv z] w fun e w'=> ∃v,e= .returned v/\iJ (Lc a b c I T E S z) w' v/\aA w.heap.size w w':=by
 obtain⟨a3,n3,c3,rfl⟩:=h3;obtain⟨a4,n4,c4,rfl⟩:=h4;obtain⟨a1,c1,j1,h6⟩:∃la cap,ev= .slice la E.length cap/\E.length<=140737488351232:=by obtain⟨la,cap,e,h,_⟩:=id hE;exact⟨la,cap,e,h⟩
 subst j1;obtain⟨a2,c2,j2,j3⟩:∃la cap,sv= .slice la S.length cap/\S.length<=140737488351232:=by obtain⟨la,cap,e,h,_⟩:=id hS;exact⟨la,cap,e,h⟩
 subst j2;obtain⟨p,hp⟩:∃p,p=Lc a b c I T E S z:=⟨_,rfl⟩;rw[<-hp];obtain⟨k,hk⟩:∃k,k=(pk c 15).toNat:=⟨_,rfl⟩;obtain⟨W0,d9⟩:∃k,k=(pk a 20).toNat:=⟨_,rfl⟩;obtain⟨H0,e0⟩:∃k,k=(pk b 20).toNat:=⟨_,rfl⟩;have d4:k<15:=by have:=rF c 15 (by omega);omega
 have l0:W0<=19:=by have:=rF a 20 (by omega);omega
 have l1:H0<=19:=by have:=rF b 20 (by omega);omega
 have t:au (∀wx:af,aH prog 10 #[.int .i64 c,.int .i64 15] wx fun e w'=>e= .returned (.int .i64 (k:Int))/\w'=wx):=(fun wx=>by rw[hk];exact qL c 15 hc (by omega) (by omega) wx:∀wx,_);have r:au (∀wx:af,aH prog 10 #[.int .i64 a,.int .i64 20] wx fun e w'=>e= .returned (.int .i64 (W0:Int))/\w'=wx):=(fun wx=>by rw[d9];exact qL a 20 ha (by omega) (by omega) wx:∀wx,_);have j4:au (∀wx:af,aH prog 10 #[.int .i64 b,.int .i64 20] wx fun e w'=>e= .returned (.int .i64 (H0:Int))/\w'=wx):=(fun wx=>by rw[e0];exact qL b 20 hb (by omega) (by omega) wx:∀wx,_);have h7:au (p=⟨1+W0,1+H0,xw k,C_ k,I,if C_ k=3 then jk (oP E) 16777216 (ku (xw k) E.length)else [],vZ (1+W0) (1+H0) (C_ k) (xw k) T E S z,La (1+W0) (1+H0) (C_ k) (xw k) E S⟩):=(by rw[hp,hk,d9,e0];rfl:_=_);have c5:au _:=acC k d4;have h8:au _:=hE;have j5:au _:=hS;clear hE hS hp hk d9 e0;unfold yz;go_enter func4,ntmps4
 go_upto_region 1 with fail
 have HX:au (((w.alloc (.cells #[.int .i64 a,.int .i64 b,.int .i64 c,.bool I,.slice a1 E.length c1,.bool T,.slice a2 S.length c2,.slice a3 n3 c3,.slice a4 n4 c4,.int .i64 z] 24)).alloc (.cells #[.int .i64 0,.int .i64 0,.int .i64 0,.int .i64 0,.bool false,.slice none 0 0,.slice none 0 0,.slice none 0 0] 26)).heap[w.heap.size]?=some (.cells #[.int .i64 a,.int .i64 b,.int .i64 c,.bool I,.slice a1 E.length c1,.bool T,.slice a2 S.length c2,.slice a3 n3 c3,.slice a4 n4 c4,.int .i64 z] 24 (0,0))):=((xy _ _ (by simp)).trans (aP w _):_=_);have HY:au (((w.alloc (.cells #[.int .i64 a,.int .i64 b,.int .i64 c,.bool I,.slice a1 E.length c1,.bool T,.slice a2 S.length c2,.slice a3 n3 c3,.slice a4 n4 c4,.int .i64 z] 24)).alloc (.cells #[.int .i64 0,.int .i64 0,.int .i64 0,.int .i64 0,.bool false,.slice none 0 0,.slice none 0 0,.slice none 0 0] 26)).heap[w.heap.size+1]?=some (.cells #[.int .i64 0,.int .i64 0,.int .i64 0,.int .i64 0,.bool false,.slice none 0 0,.slice none 0 0,.slice none 0 0] 26 (0,0))):=(by have:=aP (w.alloc (.cells #[.int .i64 a,.int .i64 b,.int .i64 c,.bool I,.slice a1 E.length c1,.bool T,.slice a2 S.length c2,.slice a3 n3 c3,.slice a4 n4 c4,.int .i64 z] 24)) (.cells #[.int .i64 0,.int .i64 0,.int .i64 0,.int .i64 0,.bool false,.slice none 0 0,.slice none 0 0,.slice none 0 0] 26);rw[sG]at this;exact this:_=_)
 have a6:au (aA w.heap.size w ((w.alloc (.cells #[.int .i64 a,.int .i64 b,.int .i64 c,.bool I,.slice a1 E.length c1,.bool T,.slice a2 S.length c2,.slice a3 n3 c3,.slice a4 n4 c4,.int .i64 z] 24)).alloc (.cells #[.int .i64 0,.int .i64 0,.int .i64 0,.int .i64 0,.bool false,.slice none 0 0,.slice none 0 0,.slice none 0 0] 26))):=(((aV w.heap.size w).alloc (ah _) _).alloc (by simp) _:aA _ _ _);revert HX HY a6;generalize (w.alloc _).alloc _=w0;intro HX HY a6;obtain⟨f,c6⟩:∃f,f=w.heap.size:=⟨_,rfl⟩;have HX:au (w0.heap[f]?=some (.cells #[.int .i64 a,.int .i64 b,.int .i64 c,.bool I,.slice a1 E.length c1,.bool T,.slice a2 S.length c2,.slice a3 n3 c3,.slice a4 n4 c4,.int .i64 z] 24 (0,0))):=(by rw[c6];exact HX.out:_=_);have HY:au (w0.heap[f+1]?=some (.cells #[.int .i64 0,.int .i64 0,.int .i64 0,.int .i64 0,.bool false,.slice none 0 0,.slice none 0 0,.slice none 0 0] 26 (0,0))/\w.heap.size<=f):=(by rw[c6];exact⟨HY.out,ah _⟩:_/\_);rw[<-c6];clear c6;go_cut [3] (fun v wx=> ∃sb,v= .pointer (some ⟨sb,0,none⟩)/\au (∀j u,(WL WJ)[j]?=some u->wx.cell? ⟨sb,j,none⟩=some u)/\au (aA w0.heap.size w0 wx)/\au (w0.heap.size<=sb))
 case first=>
  refine wp_region_lit ?_
  iterate 17
   refine wpList_plain rfl (fun K hK=> ?_);go_simp
   refine hK _ _ ?_;clear hK K
  refine wpList_store_mid rfl _ _ _ rfl w0.heap.size 0 (WL WJ).toArray rfl rfl (Jl w0 _ _ (by kernel_rfl)) (by kernel_rfl) (by kernel_rfl) ?_;generalize e4:World.setCells _ _ _ _=wS;have HR:au (∀j u,(WL WJ)[j]?=some u->wS.cell? ⟨w0.heap.size,j,none⟩=some u):=((by rw[<-e4];exact(Gw w0 _ rfl).1):∀j u,_);have j6:au (aA w0.heap.size w0 wS):=((by rw[<-e4];exact(Gw w0 _ rfl).2):aA _ _ _);clear e4;go_wp2_with fail
  go_meet
  case rel=>exact⟨w0.heap.size,rfl,HR,j6,(ah _:_<=_)⟩
 case rest=>
  obtain⟨sb,rfl,HR,c7,a7⟩:=hcut;have V:au (∀wx,aA w0.heap.size w0 wx->wx.cell? ⟨f,0,none⟩=some (.int .i64 a)/\wx.cell? ⟨f,1,none⟩=some (.int .i64 b)/\wx.cell? ⟨f,2,none⟩=some (.int .i64 c)/\wx.cell? ⟨f,3,none⟩=some (.bool I)/\wx.cell? ⟨f,4,none⟩=some (.slice a1 E.length c1)/\wx.cell? ⟨f,5,none⟩=some (.bool T)/\wx.cell? ⟨f,6,none⟩=some (.slice a2 S.length c2)/\wx.cell? ⟨f,9,none⟩=some (.int .i64 z)):=(fun wx hb=>by have h:=(hb.block _ (ak HX.out)).trans HX.out;exact⟨by simpa using(cell_of h 0).1,by simpa using(cell_of h 1).1,by simpa using(cell_of h 2).1,by simpa using(cell_of h 3).1,by simpa using(cell_of h 4).1,by simpa using(cell_of h 5).1,by simpa using(cell_of h 6).1,by simpa using(cell_of h 9).1⟩:∀wx,_)
  obtain⟨x1,x2⟩:=ada WJ k _ (adb k d4);have y0:=HR.out _ _ x1;have y1:=HR.out _ _ x2;dsimp only at y0 y1;have d5:1<=xw k/\xw k<=16:=by have:=c5.out;unfold eG at this;omega
  have s3:C_ k<=6:=by have:=c5.out;omega
  generalize C_ k=K at*;generalize xw k=D at*;obtain⟨p0,p1,p2,p3,X,p5,p6,p9⟩:=V.out wc c7.out;clear x1 x2;go_wp2_with fail
  refine aU (t.out _) ?_;rintro e w2 ⟨rfl,e5⟩;have e5:=e5.symm;subst e5;go_upto_region 3 with fail
  obtain⟨W,hW⟩:∃W,W=1+W0:=⟨_,rfl⟩;obtain⟨H,hH⟩:∃H,H=1+H0:=⟨_,rfl⟩;have j7:IntKind.i64.wrap (1+(W0:Int))=(W:Int):=by rw[eY];omega
  have j8:IntKind.i64.wrap (1+(H0:Int))=(H:Int):=by rw[eY];omega
  have a8:1<=W/\W<=20:=by omega
  have a9:1<=H/\H<=20:=by omega
  rw[<-hW,<-hH]at h7;have J:au (aA w0.heap.size w0 (wc.alloc (.cells #[.int .i64 (K:Int),.int .i64 (D:Int)] 42))):=(c7.out.alloc c7.out.size _:aA _ _ _);have A:au ((wc.alloc (.cells #[.int .i64 (K:Int),.int .i64 (D:Int)] 42)).heap[wc.heap.size]?=some (.cells #[.int .i64 (K:Int),.int .i64 (D:Int)] 42 (0,0))):=(aP wc _:_=_);revert J A;generalize wc.alloc _=w3;generalize wc.heap.size=b4;intro J A;have r0:w3.cell? ⟨b4,0,none⟩=some (.int .i64 (K:Int)):=by simpa using(cell_of A.out 0).1
  have r1:w3.cell? ⟨b4,1,none⟩=some (.int .i64 (D:Int)):=by simpa using(cell_of A.out 1).1
  clear p0 p1 p2 p3 X p5 p6 p9 y0 y1 hW hH HR c7 A;obtain⟨p0,p1,p2,p3,X,p5,p6,p9⟩:=V.out w3 J.out;go_cut [5] (fun v wx=> ∃pb,v= .pointer (some ⟨pb,0,none⟩)/\au (wx.heap[pb]?=some (.cells #[.int .i64 (W:Int),.int .i64 (H:Int),.int .i64 (K:Int),.int .i64 (D:Int),.bool I,.slice none 0 0,.slice none 0 0,.slice none 0 0] 26 (0,0)))/\au (aA w0.heap.size w0 wx)/\w0.heap.size<=pb)
  case first=>
   have j9:au (aA w0.heap.size w0 (w3.alloc (.cells #[.int .i64 (W:Int),.int .i64 (H:Int),.int .i64 (K:Int),.int .i64 (D:Int),.bool I,.slice none 0 0,.slice none 0 0,.slice none 0 0] 26)).drew):=((J.out.alloc J.out.size _).drew:aA _ _ _);have k0:au ((w3.alloc (.cells #[.int .i64 (W:Int),.int .i64 (H:Int),.int .i64 (K:Int),.int .i64 (D:Int),.bool I,.slice none 0 0,.slice none 0 0,.slice none 0 0] 26)).drew.heap[w3.heap.size]?=some (.cells #[.int .i64 (W:Int),.int .i64 (H:Int),.int .i64 (K:Int),.int .i64 (D:Int),.bool I,.slice none 0 0,.slice none 0 0,.slice none 0 0] 26 (0,0))):=(aP w3 _:_=_);have B:w0.heap.size<=w3.heap.size:=J.out.size;clear B
   go_region_held3 (fun w'=>w'.cell? ⟨f,0,none⟩=some (.int .i64 a)/\w'.cell? ⟨f,1,none⟩=some (.int .i64 b)/\w'.cell? ⟨f,3,none⟩=some (.bool I)/\w'.cell? ⟨b4,0,none⟩=some (.int .i64 (K:Int))/\w'.cell? ⟨b4,1,none⟩=some (.int .i64 (D:Int)))
    (first|go_keep) (first
    |(go_at_call 10;(first|(with_reducible refine aU (r.out _) ?_;rintro e w5 ⟨rfl,rfl⟩)|(with_reducible refine aU (j4.out _) ?_;rintro e w5 ⟨rfl,rfl⟩))))
   all_goals
    go_wp2_with fail
    go_meet
    case rel=>exact⟨w3.heap.size,rfl,k0,j9,J.out.size⟩
  case rest=>
   obtain⟨pb,rfl,b0,b2,B⟩:=hcut;clear p0 p1 p2 p3 X p5 p6 p9 r0 r1 j7 j8 J;obtain⟨p0,p1,p2,p3,X,p5,p6,p9⟩:=V.out wc b2.out;have z2:wc.cell? ⟨pb,2,none⟩=some (.int .i64 (K:Int)):=by simpa using(cell_of b0.out 2).1
   have z3:wc.cell? ⟨pb,3,none⟩=some (.int .i64 (D:Int)):=by simpa using(cell_of b0.out 3).1
   obtain⟨M,c8⟩:∃M:Nat,M=2^D:=⟨_,rfl⟩;have h9:2<=M/\M<=65536:=by rw[c8];exact ade D d5.1 d5.2
   have i0:wrap64 ((2:Int)^D)=(M:Int):=by
    have h1:((2:Int)^D)=(M:Int):=by rw[c8];simp
    rw[h1];exact wrap_small M h9.2
   have c9:au _:=c8;clear c8;go_upto_if 53 with fail
   rw[i0];clear i0 z2 z3 p0 p1 p2 p3 p5 p6 p9;have Y:au (∀wx,aA w0.heap.size w0 wx->aA w.heap.size w wx):=(fun wx hb=>a6.out.trans (hb.mono a6.out.size):∀wx,_);have s:au (w.heap.size<=pb/\f<pb/\f+1<pb):=(⟨aY a6.out.size B,aN (ak HX.out) B,aN (ak HY.out.1) B⟩:_/\_/\_);go_cut [6]from 7 to 80 (fun v wx=> ∃(ms en ec:Nat) (ea:Option bG),v= .int .i64 (ms:Int)/\1<=ms/\ms<=65536/\en<=256/\au (ms=tY K D E.length)/\au (wx.heap[pb]?=some (.cells #[.int .i64 (W:Int),.int .i64 (H:Int),.int .i64 (K:Int),.int .i64 (D:Int),.bool I,.slice ea en ec,.slice none 0 0,.slice none 0 0] 26 (0,0)))/\au (wx.ownsRow (pb+1) 3 1 (.slice ea en ec) en (kR (if K=3 then jk (oP E) 16777216 (ku D E.length)else [])))/\au (aA w0.heap.size w0 wx))
   case first=>
    by_cases d0:K=3
    ·have b3:((K:Int)==3)=true:=by rw[mD];omega
     have i1:D<=8:=by have:=c5.out;unfold eG at this;omega
     have l2:M<=256:=by rw[c9.out];exact acD D i1
     obtain⟨Z,e6⟩:∃Z,Z=min E.length M:=⟨_,rfl⟩;obtain⟨ne,e7⟩:∃ne,ne=ku D E.length:=⟨_,rfl⟩;have L:au (ne=ku D E.length/\ne=(if Z=0 then 1 else Z)):=(⟨e7,by rw[e7];exact ab4 D E.length Z (acD D i1) (by rw[e6,c9.out])⟩:_/\_);have k1:Z<=256:=by omega
     have l3:1<=ne/\ne<=256:=by rw[L.out.1];exact⟨(BH D E.length).1,(BH D E.length).2.1⟩
     have i2:au _:=e6;clear e7 e6;go_upto_if 59 with fail
     go_cut [7]from 12 to 80 (fun v wx=>v= .int .i64 (Z:Int)/\wx=wc)
     case first=>
      by_cases s4:M<E.length
      ·have k2:(M:Int)<(E.length:Int):=by omega
       have HE:au (Z=M):=(by have:=i2.out;omega:_=_);go_wp2_with fail
       go_meet
       case rel=>exact⟨by rw[HE.out],rfl⟩
      ·have k2:¬((M:Int)<(E.length:Int)):=by omega
       have HE:au (Z=E.length):=(by have:=i2.out;omega:_=_);go_wp2_with fail
       go_meet
       case rel=>exact⟨by rw[HE.out],rfl⟩
     case rest=>
      obtain⟨rfl,F⟩:=hcut;have F:=F.symm;subst F;have s5:¬((256:Int)<(Z:Int)):=by omega
      go_upto_if 64 with fail
      go_cut [7]from 12 to 80 (fun v wx=>v= .int .i64 (ne:Int)/\wx=wc)
      case first=>
       by_cases h0:Z=0
       ·have HE:au (ne=1):=(by have:=L.out.2;rw[aG h0]at this;exact this:_=_);subst h0;go_wp2_with fail
        go_meet
        case rel=>exact⟨by rw[HE.out];rfl,rfl⟩
       ·have HE:au (ne=Z):=(by have:=L.out.2;rw[ax h0]at this;exact this:_=_);have d1:((Z:Int)==0)=false:=by rw[aI];omega
        go_wp2_with fail
        go_meet
        case rel=>exact⟨by rw[HE.out],rfl⟩
      case rest=>
       obtain⟨rfl,F⟩:=hcut;have F:=F.symm;subst F;go_wp2_with fail
       have e8:au (ne=tY K D E.length):=(by unfold tY;rw[aG d0];exact L.out.1:_=_);refine wp_mono (Z_ W H K D I f pb ne E a1 c1 wc (Gx h8.out (Y.out wc b2.out) s.out.1) X s.out.2.1 b0.out (by omega) h6 rfl ?_) iU;intro ec ea u8 s6 s7 s8 s9 t0 t1 t2 t3 t4 t5 t6 t7 t8 t9 u0 wx b5 a0 a5;have k5:au (wx.heap[pb]?=some (.cells #[.int .i64 (W:Int),.int .i64 (H:Int),.int .i64 (K:Int),.int .i64 (D:Int),.bool I,.slice ea ne ec,.slice none 0 0,.slice none 0 0] 26 (0,0))):=(b5:_=_);have e9:au (wx.ownsRow (pb+1) 3 1 (.slice ea ne ec) ne (kR (if K=3 then jk (oP E) 16777216 (ku D E.length)else []))):=(by rw[aG d0,<-L.out.1];exact a0:World.ownsRow _ _ _ _ _ _ _);have q:au (aA w0.heap.size w0 wx):=(pY b2.out a5 B (ah _):aA _ _ _);clear b5 a0 a5;go_wp2_with fail
       go_meet
       case rel=>exact⟨ne,ne,ec,ea,rfl,by omega,by omega,by omega,e8,k5,e9,q⟩
    ·have b3:((K:Int)==3)=false:=by rw[aI];omega
     have e8:au (M=tY K D E.length):=(by unfold tY;rw[ax d0];exact c9.out:_=_);have e9:au (wc.ownsRow (pb+1) 3 1 (.slice none 0 0) 0 (kR (if K=3 then jk (oP E) 16777216 (ku D E.length)else []))):=(by rw[ax d0];exact eX _ _ _ _:World.ownsRow _ _ _ _ _ _ _);go_wp2_with fail
     go_meet
     case rel=>exact⟨M,0,0,none,rfl,by omega,by omega,by omega,e8,b0,e9,b2⟩
   case rest=>
    obtain⟨ms,en,ec,ea,rfl,d6,b6,u1,f8,d7,L,d2⟩:=hcut;clear X b0 b2 c9;obtain⟨p0,p1,p2,p3,X,p5,p6,p9⟩:=V.out wc d2.out;clear p0 p1 p2 p3 X p5 p9;obtain⟨n,hn⟩:∃n,n=aT K:=⟨_,rfl⟩;have f9:K=0\/K=2\/K=3\/K=4\/K=6:=by have:=c5.out;omega
    have g0:1<=n/\n<=4:=by rw[hn];rcases f9 with e|e|e|e|e<;>rw[e]<;>decide
    obtain⟨N,hN⟩:∃N,N=W*H*n:=⟨_,rfl⟩;have k7:1*1<=W*H:=bD a8.1 a9.1;have d8:W*H<=20*20:=bD a8.2 a9.2;have u2:1*n<=N:=by rw[hN];exact dM _ (by omega)
    have u3:N<=20*20*4:=by rw[hN];exact bD d8 g0.2
    have O:au (n=aT K/\N=W*H*n):=(⟨hn,hN⟩:_/\_);have i3:au _:=f9;clear hn hN k7 d8 f9;go_wp2_with fail
    refine wp_mono (Wj W H K D n N ms I f pb S a2 c2 ea en ec wc (Gx j5.out (Y.out wc d2.out) s.out.1) p6 s.out.2.1 d7.out j3 i3.out O.out.1 g0.2 a8.2 a9.2 O.out.2 ⟨d6,b6⟩ rfl ?_) iU;intro U sa u9 u4 u5 u6 u7 v3 v5 v7 v8 v9 w4 w6 w7 w8 x0 x3 x4 x5 x6 x7 l4 l5 l6 l7 wx b5 a0 i4 a5;obtain⟨g,cp,hg⟩:=y_ a0 (by omega);injection hg with e1 e2 e3
    subst e1;have g1:au _:=Gy L.out a5;have d3:au _:=a0;have t:au _:=b5;have g2:au _:=i4;have q:au (aA w0.heap.size w0 wx):=(pY d2.out a5 B (ah _):aA _ _ _);clear a0 b5 i4 a5 e2 e3 L d7 d2 p6;have a7:au (∀x∈jk (oP S) ms N,x<65536):=(fun x hx=>aN (vY (oP S) ms N (by omega) x hx) b6:∀x,_);have g3:au (∀x∈(if K=3 then jk (oP E) 16777216 (ku D E.length)else []),x<16777216):=(fun x hx=>by
     split at hx
     ·exact vY (oP E) 16777216 _ (by omega) x hx
     ·exact absurd hx List.not_mem_nil:∀x,_)
    have g4:au (p.W=W/\p.H=H/\p.K=K/\p.D=D/\p.I=I/\p.E=(if K=3 then jk (oP E) 16777216 (ku D E.length)else [])/\p.S=jk (oP S) ms N/\p.C=vZ W H K D T E S z):=(by rw[h7.out];refine⟨rfl,rfl,rfl,rfl,rfl,rfl,?_,rfl⟩;show La W H K D E S=_;unfold La;rw[f8.out,O.out.2,O.out.1]:_/\_)
    have d:au (∀l,aA w0.heap.size w0 l->l.heap[f+1]?=some (w_ 0 0 0 0 false (.slice none 0 0) (.slice none 0 0) (.slice none 0 0))):=(fun l hb=>(hb.block _ (ak HY.out.1)).trans HY.out.1:∀l,_);obtain⟨p0,p1,p2,p3,X,p5,p6,p9⟩:=V.out wx q.out;clear p0 p1 p2 p3 X p6 p9;obtain⟨R,hR⟩:∃R:Bool,R=decide (T=false\/K=4\/K=6):=⟨_,rfl⟩;have P:au _:=hR;clear hR;have zK:wx.cell? ⟨pb,2,none⟩=some (.int .i64 (K:Int)):=by simpa using(cell_of t.out 2).1
    go_upto_region 22 with fail
    go_cut [116] (fun v l=>v= .bool R/\l=wx)
    case first=>
     cases T with
     |false=>
      have Q:au (R=true):=(by rw[P.out];rfl:_=_);go_wp2_with fail
      go_meet
      case rel=>exact⟨by rw[Q.out],rfl⟩
     |true=>
      by_cases k4:K=4
      ·have b3:((K:Int)==4)=true:=by rw[mD];omega
       have Q:au (R=true):=(by rw[P.out,k4];rfl:_=_);clear k4;go_wp2_with fail
       go_meet
       case rel=>exact⟨by rw[Q.out],rfl⟩
      ·have b3:((K:Int)==4)=false:=by rw[aI];omega
       by_cases k6:K=6
       ·have k8:((K:Int)==6)=true:=by rw[mD];omega
        have Q:au (R=true):=(by rw[P.out,k6];rfl:_=_);clear k4 k6;go_wp2_with fail
        go_meet
        case rel=>exact⟨by rw[Q.out],rfl⟩
       ·have k8:((K:Int)==6)=false:=by rw[aI];omega
        have Q:au (R=false):=(by rw[P.out];simp[k4,k6]:_=_);clear k4 k6;go_wp2_with fail
        go_meet
        case rel=>exact⟨by rw[Q.out],rfl⟩
    case rest=>
     obtain⟨rfl,F⟩:=hcut;subst F;clear p5;cases R with
     |true=>
      have k9:au (wc.ownsRow (pb+1) 3 1 (.slice none 0 0) 0 (kR (vZ W H K D T E S z))):=(by unfold vZ;rw[aG (lW P.out.symm)];exact eX _ _ _ _:World.ownsRow _ _ _ _ _ _ _)
      clear zK;have b7:au (∀x∈vZ W H K D T E S z,x<65536):=(by unfold vZ;rw[aG (lW P.out.symm)];exact fun x hx=>absurd hx List.not_mem_nil:∀x,_)
      have z0:wc.cell? ⟨pb,0,none⟩=some (.int .i64 (W:Int)):=by simpa using(cell_of t.out 0).1
      have z1:wc.cell? ⟨pb,1,none⟩=some (.int .i64 (H:Int)):=by simpa using(cell_of t.out 1).1
      have z2:wc.cell? ⟨pb,2,none⟩=some (.int .i64 (K:Int)):=by simpa using(cell_of t.out 2).1
      have z3:wc.cell? ⟨pb,3,none⟩=some (.int .i64 (D:Int)):=by simpa using(cell_of t.out 3).1
      have z4:wc.cell? ⟨pb,4,none⟩=some (.bool I):=by simpa using(cell_of t.out 4).1
      have z5:wc.cell? ⟨pb,5,none⟩=some (.slice ea en ec):=by simpa using(cell_of t.out 5).1
      have z6:wc.cell? ⟨pb,6,none⟩=some (.slice none 0 0):=by simpa using(cell_of t.out 6).1
      have z7:wc.cell? ⟨pb,7,none⟩=some (.slice (some ⟨g,0,none⟩) N U):=by simpa using(cell_of t.out 7).1
      have r0:wc.cell? ⟨f+1,0,none⟩=some (.int .i64 0):=by simpa using(cell_of (d.out wc q.out) 0).1
      have r1:wc.cell? ⟨f+1,1,none⟩=some (.int .i64 0):=by simpa using(cell_of (d.out wc q.out) 1).1
      have r2:wc.cell? ⟨f+1,2,none⟩=some (.int .i64 0):=by simpa using(cell_of (d.out wc q.out) 2).1
      have r3:wc.cell? ⟨f+1,3,none⟩=some (.int .i64 0):=by simpa using(cell_of (d.out wc q.out) 3).1
      have r4:wc.cell? ⟨f+1,4,none⟩=some (.bool false):=by simpa using(cell_of (d.out wc q.out) 4).1
      have r5:wc.cell? ⟨f+1,5,none⟩=some (.slice none 0 0):=by simpa using(cell_of (d.out wc q.out) 5).1
      have r6:wc.cell? ⟨f+1,6,none⟩=some (.slice none 0 0):=by simpa using(cell_of (d.out wc q.out) 6).1
      have r7:wc.cell? ⟨f+1,7,none⟩=some (.slice none 0 0):=by simpa using(cell_of (d.out wc q.out) 7).1
      have f0:wc.frozen? ⟨f+1,0,none⟩=false:=by simpa using(cell_of (d.out wc q.out) 0).2
      have f1:wc.frozen? ⟨f+1,1,none⟩=false:=by simpa using(cell_of (d.out wc q.out) 1).2
      have f2:wc.frozen? ⟨f+1,2,none⟩=false:=by simpa using(cell_of (d.out wc q.out) 2).2
      have f3:wc.frozen? ⟨f+1,3,none⟩=false:=by simpa using(cell_of (d.out wc q.out) 3).2
      have f4:wc.frozen? ⟨f+1,4,none⟩=false:=by simpa using(cell_of (d.out wc q.out) 4).2
      have f5:wc.frozen? ⟨f+1,5,none⟩=false:=by simpa using(cell_of (d.out wc q.out) 5).2
      have f6:wc.frozen? ⟨f+1,6,none⟩=false:=by simpa using(cell_of (d.out wc q.out) 6).2
      have f7:wc.frozen? ⟨f+1,7,none⟩=false:=by simpa using(cell_of (d.out wc q.out) 7).2
      go_wp2_with fail
      have m:au _:=adf (.int .i64 (W:Int)) (.int .i64 (H:Int)) (.int .i64 (K:Int)) (.int .i64 (D:Int)) (.bool I) (.slice ea en ec) (.slice none 0 0) (.slice (some ⟨g,0,none⟩) N U) (d.out wc q.out);revert m;generalize World.setCell _ _ _=y;intro m;have q0:y.cell? ⟨f+1,0,none⟩=some (.int .i64 (W:Int)):=by simpa using(cell_of m.out.1 0).1
      have q1:y.cell? ⟨f+1,1,none⟩=some (.int .i64 (H:Int)):=by simpa using(cell_of m.out.1 1).1
      have q2:y.cell? ⟨f+1,2,none⟩=some (.int .i64 (K:Int)):=by simpa using(cell_of m.out.1 2).1
      have q3:y.cell? ⟨f+1,3,none⟩=some (.int .i64 (D:Int)):=by simpa using(cell_of m.out.1 3).1
      have q4:y.cell? ⟨f+1,4,none⟩=some (.bool I):=by simpa using(cell_of m.out.1 4).1
      have q5:y.cell? ⟨f+1,5,none⟩=some (.slice ea en ec):=by simpa using(cell_of m.out.1 5).1
      have q6:y.cell? ⟨f+1,6,none⟩=some (.slice none 0 0):=by simpa using(cell_of m.out.1 6).1
      have q7:y.cell? ⟨f+1,7,none⟩=some (.slice (some ⟨g,0,none⟩) N U):=by simpa using(cell_of m.out.1 7).1
      refine a_ (v:=pW W H K D I (.slice ea en ec) (.slice none 0 0) (.slice (some ⟨g,0,none⟩) N U)) (by unfold pW;simp[results,results4,go_sem,q0,q1,q2,q3,q4,q5,q6,q7]) rfl ⟨_,rfl,Au p g4.out g1.out d3.out k9.out g3.out a7.out b7.out (by omega) g2.out m.out.2 s.out.2.2,pY (Y.out _ q.out) m.out.2 (by have:=HY.out.2;omega) (ah _)⟩
     |false=>
      have i5:¬(T=false\/K=4\/K=6):=of_decide_eq_false P.out.symm;have g5:au _:=i5;clear i5;by_cases k3:K=3
      ·have b3:((K:Int)==3)=true:=by rw[mD];omega
       have A:au _:=k3;clear k3;obtain⟨cn,i6⟩:∃cn,cn=1+(pk z ms).toNat:=⟨_,rfl⟩;have i7:cn<=65536:=by have:=rF z ms (by omega);omega
       have i9:au _:=i6;clear i6;obtain⟨p0,p1,p2,p3,X,p5,p6,p9⟩:=V.out wc q.out;clear p0 p1 p2 p3 p5 p6;go_wp2_with fail
       refine wp_mono (aab W H K D cn ms z I f pb E a1 c1 ea en ec (some ⟨g,0,none⟩) N U wc (Gx h8.out (Y.out wc q.out) s.out.1) X p9 s.out.2.1 t.out h6 hz ⟨d6,b6⟩ i9.out i7 rfl ?_) iU;intro cc ca x8 l8 l9 m0 m1 m2 m3 m4 m5 m6 m7 m8 m9 n0 n2 n5 n6 n7 n8 n9 o0 l b8 b9 G;have r:au _:=b8;have g6:au _:=Gy g1.out G;have g9:au _:=Gy d3.out G;have o:au (aA w0.heap.size w0 l):=(pY q.out G B (ah _):aA _ _ _);have h5:au (l.ownsRow (pb+1) 3 1 (.slice ca cn cc) cn (kR (vZ W H K D T E S z))):=(by unfold vZ;rw[ax g5.out,aG A.out,<-f8.out,<-i9.out];exact b9:World.ownsRow _ _ _ _ _ _ _)
       have b7:au (∀x∈vZ W H K D T E S z,x<65536):=(by unfold vZ;rw[ax g5.out,aG A.out];exact fun x hx=>aN (vY (fun i=>(oP E i).tdiv 3) 256 _ (by omega) x hx) (by omega):∀x,_)
       clear b8 b9 G zK X p9;have z0:l.cell? ⟨pb,0,none⟩=some (.int .i64 (W:Int)):=by simpa using(cell_of r.out 0).1
       have z1:l.cell? ⟨pb,1,none⟩=some (.int .i64 (H:Int)):=by simpa using(cell_of r.out 1).1
       have z2:l.cell? ⟨pb,2,none⟩=some (.int .i64 (K:Int)):=by simpa using(cell_of r.out 2).1
       have z3:l.cell? ⟨pb,3,none⟩=some (.int .i64 (D:Int)):=by simpa using(cell_of r.out 3).1
       have z4:l.cell? ⟨pb,4,none⟩=some (.bool I):=by simpa using(cell_of r.out 4).1
       have z5:l.cell? ⟨pb,5,none⟩=some (.slice ea en ec):=by simpa using(cell_of r.out 5).1
       have z6:l.cell? ⟨pb,6,none⟩=some (.slice ca cn cc):=by simpa using(cell_of r.out 6).1
       have z7:l.cell? ⟨pb,7,none⟩=some (.slice (some ⟨g,0,none⟩) N U):=by simpa using(cell_of r.out 7).1
       have r0:l.cell? ⟨f+1,0,none⟩=some (.int .i64 0):=by simpa using(cell_of (d.out l o.out) 0).1
       have r1:l.cell? ⟨f+1,1,none⟩=some (.int .i64 0):=by simpa using(cell_of (d.out l o.out) 1).1
       have r2:l.cell? ⟨f+1,2,none⟩=some (.int .i64 0):=by simpa using(cell_of (d.out l o.out) 2).1
       have r3:l.cell? ⟨f+1,3,none⟩=some (.int .i64 0):=by simpa using(cell_of (d.out l o.out) 3).1
       have r4:l.cell? ⟨f+1,4,none⟩=some (.bool false):=by simpa using(cell_of (d.out l o.out) 4).1
       have r5:l.cell? ⟨f+1,5,none⟩=some (.slice none 0 0):=by simpa using(cell_of (d.out l o.out) 5).1
       have r6:l.cell? ⟨f+1,6,none⟩=some (.slice none 0 0):=by simpa using(cell_of (d.out l o.out) 6).1
       have r7:l.cell? ⟨f+1,7,none⟩=some (.slice none 0 0):=by simpa using(cell_of (d.out l o.out) 7).1
       have f0:l.frozen? ⟨f+1,0,none⟩=false:=by simpa using(cell_of (d.out l o.out) 0).2
       have f1:l.frozen? ⟨f+1,1,none⟩=false:=by simpa using(cell_of (d.out l o.out) 1).2
       have f2:l.frozen? ⟨f+1,2,none⟩=false:=by simpa using(cell_of (d.out l o.out) 2).2
       have f3:l.frozen? ⟨f+1,3,none⟩=false:=by simpa using(cell_of (d.out l o.out) 3).2
       have f4:l.frozen? ⟨f+1,4,none⟩=false:=by simpa using(cell_of (d.out l o.out) 4).2
       have f5:l.frozen? ⟨f+1,5,none⟩=false:=by simpa using(cell_of (d.out l o.out) 5).2
       have f6:l.frozen? ⟨f+1,6,none⟩=false:=by simpa using(cell_of (d.out l o.out) 6).2
       have f7:l.frozen? ⟨f+1,7,none⟩=false:=by simpa using(cell_of (d.out l o.out) 7).2
       go_wp2_with fail
       have m:au _:=adf (.int .i64 (W:Int)) (.int .i64 (H:Int)) (.int .i64 (K:Int)) (.int .i64 (D:Int)) (.bool I) (.slice ea en ec) (.slice ca cn cc) (.slice (some ⟨g,0,none⟩) N U) (d.out l o.out);revert m;generalize World.setCell _ _ _=y;intro m;have q0:y.cell? ⟨f+1,0,none⟩=some (.int .i64 (W:Int)):=by simpa using(cell_of m.out.1 0).1
       have q1:y.cell? ⟨f+1,1,none⟩=some (.int .i64 (H:Int)):=by simpa using(cell_of m.out.1 1).1
       have q2:y.cell? ⟨f+1,2,none⟩=some (.int .i64 (K:Int)):=by simpa using(cell_of m.out.1 2).1
       have q3:y.cell? ⟨f+1,3,none⟩=some (.int .i64 (D:Int)):=by simpa using(cell_of m.out.1 3).1
       have q4:y.cell? ⟨f+1,4,none⟩=some (.bool I):=by simpa using(cell_of m.out.1 4).1
       have q5:y.cell? ⟨f+1,5,none⟩=some (.slice ea en ec):=by simpa using(cell_of m.out.1 5).1
       have q6:y.cell? ⟨f+1,6,none⟩=some (.slice ca cn cc):=by simpa using(cell_of m.out.1 6).1
       have q7:y.cell? ⟨f+1,7,none⟩=some (.slice (some ⟨g,0,none⟩) N U):=by simpa using(cell_of m.out.1 7).1
       refine a_ (v:=pW W H K D I (.slice ea en ec) (.slice ca cn cc) (.slice (some ⟨g,0,none⟩) N U)) (by unfold pW;simp[results,results4,go_sem,q0,q1,q2,q3,q4,q5,q6,q7]) rfl ⟨_,rfl,Au p g4.out g6.out g9.out h5.out g3.out a7.out b7.out (by omega) g2.out m.out.2 s.out.2.2,pY (Y.out _ o.out) m.out.2 (by have:=HY.out.2;omega) (ah _)⟩
      ·have b3:((K:Int)==3)=false:=by rw[aI];omega
       have A:au _:=k3;clear k3;go_wp2_with fail
       refine wp_mono (aac W H K D n I pb (jk (oP S) ms N) ea en ec (some ⟨g,0,none⟩) N U wc d3.out t.out i3.out O.out.1 g0 (by omega) (by omega) rfl ?_) iU;intro cc ca x9 o1 o2 o3 o4 o5 o6 o7 o8 o9 p7 p8 q8 q9 r8 r9 s0 l b8 b9 G;have r:au _:=b8;have g6:au _:=Gy g1.out G;have g9:au _:=Gy d3.out G;have o:au (aA w0.heap.size w0 l):=(pY q.out G B (ah _):aA _ _ _);have j0:au (vZ W H K D T E S z=(jk (oP S) ms N).take n):=(by unfold vZ La;rw[ax g5.out,ax A.out,<-f8.out,O.out.2,O.out.1]:_=_)
       have h5:au (l.ownsRow (pb+1) 3 1 (.slice ca n cc) n (kR (vZ W H K D T E S z))):=(by rw[j0.out];exact b9:World.ownsRow _ _ _ _ _ _ _)
       have b7:au (∀x∈vZ W H K D T E S z,x<65536):=(by rw[j0.out];exact fun x hx=>a7.out x (oV hx):∀x,_)
       clear b8 b9 G zK;have z0:l.cell? ⟨pb,0,none⟩=some (.int .i64 (W:Int)):=by simpa using(cell_of r.out 0).1
       have z1:l.cell? ⟨pb,1,none⟩=some (.int .i64 (H:Int)):=by simpa using(cell_of r.out 1).1
       have z2:l.cell? ⟨pb,2,none⟩=some (.int .i64 (K:Int)):=by simpa using(cell_of r.out 2).1
       have z3:l.cell? ⟨pb,3,none⟩=some (.int .i64 (D:Int)):=by simpa using(cell_of r.out 3).1
       have z4:l.cell? ⟨pb,4,none⟩=some (.bool I):=by simpa using(cell_of r.out 4).1
       have z5:l.cell? ⟨pb,5,none⟩=some (.slice ea en ec):=by simpa using(cell_of r.out 5).1
       have z6:l.cell? ⟨pb,6,none⟩=some (.slice ca n cc):=by simpa using(cell_of r.out 6).1
       have z7:l.cell? ⟨pb,7,none⟩=some (.slice (some ⟨g,0,none⟩) N U):=by simpa using(cell_of r.out 7).1
       have r0:l.cell? ⟨f+1,0,none⟩=some (.int .i64 0):=by simpa using(cell_of (d.out l o.out) 0).1
       have r1:l.cell? ⟨f+1,1,none⟩=some (.int .i64 0):=by simpa using(cell_of (d.out l o.out) 1).1
       have r2:l.cell? ⟨f+1,2,none⟩=some (.int .i64 0):=by simpa using(cell_of (d.out l o.out) 2).1
       have r3:l.cell? ⟨f+1,3,none⟩=some (.int .i64 0):=by simpa using(cell_of (d.out l o.out) 3).1
       have r4:l.cell? ⟨f+1,4,none⟩=some (.bool false):=by simpa using(cell_of (d.out l o.out) 4).1
       have r5:l.cell? ⟨f+1,5,none⟩=some (.slice none 0 0):=by simpa using(cell_of (d.out l o.out) 5).1
       have r6:l.cell? ⟨f+1,6,none⟩=some (.slice none 0 0):=by simpa using(cell_of (d.out l o.out) 6).1
       have r7:l.cell? ⟨f+1,7,none⟩=some (.slice none 0 0):=by simpa using(cell_of (d.out l o.out) 7).1
       have f0:l.frozen? ⟨f+1,0,none⟩=false:=by simpa using(cell_of (d.out l o.out) 0).2
       have f1:l.frozen? ⟨f+1,1,none⟩=false:=by simpa using(cell_of (d.out l o.out) 1).2
       have f2:l.frozen? ⟨f+1,2,none⟩=false:=by simpa using(cell_of (d.out l o.out) 2).2
       have f3:l.frozen? ⟨f+1,3,none⟩=false:=by simpa using(cell_of (d.out l o.out) 3).2
       have f4:l.frozen? ⟨f+1,4,none⟩=false:=by simpa using(cell_of (d.out l o.out) 4).2
       have f5:l.frozen? ⟨f+1,5,none⟩=false:=by simpa using(cell_of (d.out l o.out) 5).2
       have f6:l.frozen? ⟨f+1,6,none⟩=false:=by simpa using(cell_of (d.out l o.out) 6).2
       have f7:l.frozen? ⟨f+1,7,none⟩=false:=by simpa using(cell_of (d.out l o.out) 7).2
       go_wp2_with fail
       have m:au _:=adf (.int .i64 (W:Int)) (.int .i64 (H:Int)) (.int .i64 (K:Int)) (.int .i64 (D:Int)) (.bool I) (.slice ea en ec) (.slice ca n cc) (.slice (some ⟨g,0,none⟩) N U) (d.out l o.out);revert m;generalize World.setCell _ _ _=y;intro m;have q0:y.cell? ⟨f+1,0,none⟩=some (.int .i64 (W:Int)):=by simpa using(cell_of m.out.1 0).1
       have q1:y.cell? ⟨f+1,1,none⟩=some (.int .i64 (H:Int)):=by simpa using(cell_of m.out.1 1).1
       have q2:y.cell? ⟨f+1,2,none⟩=some (.int .i64 (K:Int)):=by simpa using(cell_of m.out.1 2).1
       have q3:y.cell? ⟨f+1,3,none⟩=some (.int .i64 (D:Int)):=by simpa using(cell_of m.out.1 3).1
       have q4:y.cell? ⟨f+1,4,none⟩=some (.bool I):=by simpa using(cell_of m.out.1 4).1
       have q5:y.cell? ⟨f+1,5,none⟩=some (.slice ea en ec):=by simpa using(cell_of m.out.1 5).1
       have q6:y.cell? ⟨f+1,6,none⟩=some (.slice ca n cc):=by simpa using(cell_of m.out.1 6).1
       have q7:y.cell? ⟨f+1,7,none⟩=some (.slice (some ⟨g,0,none⟩) N U):=by simpa using(cell_of m.out.1 7).1
       refine a_ (v:=pW W H K D I (.slice ea en ec) (.slice ca n cc) (.slice (some ⟨g,0,none⟩) N U)) (by unfold pW;simp[results,results4,go_sem,q0,q1,q2,q3,q4,q5,q6,q7]) rfl ⟨_,rfl,Au p g4.out g6.out g9.out h5.out g3.out a7.out b7.out (by omega) g2.out m.out.2 s.out.2.2,pY (Y.out _ o.out) m.out.2 (by have:=HY.out.2;omega) (ah _)⟩
end Kp
end Go.Proofs.YtephkcdbnogdhabGreatDoor
