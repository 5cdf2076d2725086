import Derived.Test.YtephkcdbnogdhabGreatDoorM32
import Derived.Test.YtephkcdbnogdhabGreatDoorM33
import Derived.Test.YtephkcdbnogdhabGreatDoorM34
set_option linter.unusedVariables false
set_option maxHeartbeats 40000000
set_option maxRecDepth 10000
namespace Go.Proofs.YtephkcdbnogdhabGreatDoor
open Go.Proofs.Tryz
open Go renaming World->af,Value->ay,Calls->aH,Addr->bG
open Go.RowKit renaming Hid->au,Below->aA
namespace Kp
open Go.RowKit Rf Cr
open Pr
open gI (mY iU)
theorem RI{w w':af}{v:ay}{L:List Nat}{b:Nat}(h:ji w w.heap.size v L)(hb:aA w.heap.size w w')(hp:w.heap.size<=b):ji w' b v L:=Gx h hb hp
theorem aed{wx:af}{b:Nat}{e f g:ay}(a c d:ay)(h:wx.heap[b]?=some (.cells #[e,f,g] 35 (0,0))):
 (((wx.setCell ⟨b,0,none⟩ a).setCell ⟨b,1,none⟩ c).setCell ⟨b,2,none⟩ d).heap[b]?=some (.cells #[a,c,d] 35 (0,0))/\Fr (fun k=>k=b) wx (((wx.setCell ⟨b,0,none⟩ a).setCell ⟨b,1,none⟩ c).setCell ⟨b,2,none⟩ d):=by
 refine⟨?_,(((Fr.refl (fun k=>k=b) wx).set b 0 rfl a).set b 1 rfl c).set b 2 rfl d⟩;have h0:=bF h 0 a;have h1:=bF h0 1 c;have h2:=bF h1 2 d;simpa using h2
theorem Lh(p:Wk)(hp:p.Ok)(A:∀e∈p.E,e<16777216)(v:ay)(w:af)(hw:iJ p w v):
 aH prog 8 #[v] w fun e w'=> ∃iv,e= .returned (.agg #[.int .i64 (p.W:Int),.int .i64 (p.H:Int),iv])/\uw w' iv (pU p.q (p.W*p.H))/\aA w.heap.size w w':=by
 obtain⟨ev,cv,sv,rfl,hE,hC,hS,g,sn,m,rfl,O⟩:=hw;obtain⟨o,r,rfl,-,-⟩:=hE.at';obtain⟨s,t,rfl,-,-⟩:=hC.at';obtain⟨la,cp,he,-,-⟩:=hS.at';injection he with e1 e2 e3
 subst e2;have HE:au _:=hE;have HC:au _:=hC;have HS:au _:=hS;have a0:au _:=hp;have P:au _:=A;obtain⟨n,hn⟩:∃n,n=aT p.K:=⟨_,rfl⟩;obtain⟨M,hM⟩:∃M,M=p.W*p.H:=⟨_,rfl⟩;rw[<-hM];have a3:au (∀wx:af,aH prog 12 #[.agg #[.int .i64 (p.W:Int),.int .i64 (p.H:Int),.int .i64 (p.K:Int),.int .i64 (p.D:Int),.bool p.I,.slice o p.E.length r,.slice s p.C.length t,.slice (some ⟨g,0,none⟩) p.S.length m]] wx fun e w'=>e= .returned (.int .i64 (n:Int))/\aA wx.heap.size wx w'):=(fun wx=>by rw[hn];refine aU (pX p.W p.H p.K p.D p.I _ _ _ wx ⟨_,_,_,rfl⟩ ⟨_,_,_,rfl⟩ ⟨_,_,_,rfl⟩ hp.kinds) ?_;rintro e w' ⟨rfl,rfl⟩;exact⟨rfl,(aV _ _).alloc (ah _) _⟩:∀wx,_)
 have Q:au (n=aT p.K/\M=p.W*p.H):=(⟨hn,hM⟩:_/\_);clear hE hC hS hp A hn hM e1 e3;unfold pW;go_enter func8,ntmps8
 go_upto_region 1 with fail
 have u:au (((w.alloc (oC p.W p.H p.K p.D p.I (.slice o p.E.length r) (.slice s p.C.length t) (.slice (some ⟨g,0,none⟩) p.S.length m))).alloc (.cells #[.int .i64 0,.int .i64 0,.slice none 0 0] 35)).heap[w.heap.size]?=some (w_ p.W p.H p.K p.D p.I (.slice o p.E.length r) (.slice s p.C.length t) (.slice (some ⟨g,0,none⟩) p.S.length m))):=((xy _ _ (by simp)).trans (aP w _):_=_);have N:au (((w.alloc (oC p.W p.H p.K p.D p.I (.slice o p.E.length r) (.slice s p.C.length t) (.slice (some ⟨g,0,none⟩) p.S.length m))).alloc (.cells #[.int .i64 0,.int .i64 0,.slice none 0 0] 35)).heap[w.heap.size+1]?=some (.cells #[.int .i64 0,.int .i64 0,.slice none 0 0] 35 (0,0))):=(by have:=aP (w.alloc (oC p.W p.H p.K p.D p.I (.slice o p.E.length r) (.slice s p.C.length t) (.slice (some ⟨g,0,none⟩) p.S.length m))) (.cells #[.int .i64 0,.int .i64 0,.slice none 0 0] 35);rw[sG]at this;exact this:_=_)
 have c:au (aA w.heap.size w ((w.alloc (oC p.W p.H p.K p.D p.I (.slice o p.E.length r) (.slice s p.C.length t) (.slice (some ⟨g,0,none⟩) p.S.length m))).alloc (.cells #[.int .i64 0,.int .i64 0,.slice none 0 0] 35))):=(((aV w.heap.size w).alloc (ah _) _).alloc (by simp) _:aA _ _ _);unfold oC at u N c;revert u N c;generalize (w.alloc _).alloc _=w0;intro u N c;obtain⟨a,R⟩:∃a,a=w.heap.size:=⟨_,rfl⟩;rw[<-R]at u N|-;have l:au (w.heap.size<=a/\a+1<w0.heap.size):=(⟨by omega,ak N.out⟩:_/\_);clear R;have Y:w0.cell? ⟨a,0,none⟩=some (.int .i64 (p.W:Int)):=by simpa using(cell_of u.out 0).1
 have Z:w0.cell? ⟨a,1,none⟩=some (.int .i64 (p.H:Int)):=by simpa using(cell_of u.out 1).1
 go_upto_region 2 with fail
 have h:au ((w0.alloc (.cells #[.int .i64 (p.W:Int),.int .i64 (p.H:Int),.slice none 0 0] 35)).heap[w0.heap.size]?=some (Wu p.W p.H (.slice none 0 0))):=(aP w0 _:_=_);have i:au (aA w0.heap.size w0 (w0.alloc (.cells #[.int .i64 (p.W:Int),.int .i64 (p.H:Int),.slice none 0 0] 35))):=((aV _ _).alloc (ah _) _:aA _ _ _);obtain⟨B,F⟩:∃B,B=w0.heap.size:=⟨_,rfl⟩;rw[<-F]at h|-;have j:au (B=w0.heap.size):=(F:_=_);clear F Y Z;revert h i;generalize w0.alloc _=w1;intro i h;have b:au (w1.heap[a]?=some (w_ p.W p.H p.K p.D p.I (.slice o p.E.length r) (.slice s p.C.length t) (.slice (some ⟨g,0,none⟩) p.S.length m))):=((i.out.block a (ak u.out)).trans u.out:_=_);have Y:w1.cell? ⟨a,0,none⟩=some (.int .i64 (p.W:Int)):=by simpa using(cell_of b.out 0).1
 have Z:w1.cell? ⟨a,1,none⟩=some (.int .i64 (p.H:Int)):=by simpa using(cell_of b.out 1).1
 have z2:w1.cell? ⟨a,2,none⟩=some (.int .i64 (p.K:Int)):=by simpa using(cell_of b.out 2).1
 have z3:w1.cell? ⟨a,3,none⟩=some (.int .i64 (p.D:Int)):=by simpa using(cell_of b.out 3).1
 have z4:w1.cell? ⟨a,4,none⟩=some (.bool p.I):=by simpa using(cell_of b.out 4).1
 have z5:w1.cell? ⟨a,5,none⟩=some (.slice o p.E.length r):=by simpa using(cell_of b.out 5).1
 have z6:w1.cell? ⟨a,6,none⟩=some (.slice s p.C.length t):=by simpa using(cell_of b.out 6).1
 have z7:w1.cell? ⟨a,7,none⟩=some (.slice (some ⟨g,0,none⟩) p.S.length m):=by simpa using(cell_of b.out 7).1
 go_wp2_with fail
 refine aU (a3.out _) ?_;rintro e w2 ⟨rfl,x⟩;have a4:au _:=(x.block a (ak b.out)).trans b.out;have a5:au _:=(x.block B (ak h.out)).trans h.out;have y:au (aA w0.heap.size w0 w2):=(i.out.trans (x.mono i.out.size):aA _ _ _);have z:au (aA w.heap.size w w2):=(c.out.trans (y.out.mono c.out.size):aA _ _ _);clear x Y Z z2 z3 z4 z5 z6 z7 b h i;go_wp2_with fail
 refine wp_mono (aam p a0.out n M a B o r s t g m w2 Q.out.1 Q.out.2 P.out (RI HE.out z.out (by rw[j.out];exact c.out.size)) (RI HC.out z.out (by rw[j.out];exact c.out.size)) (RI HS.out z.out (by rw[j.out];exact c.out.size)) O a4.out (by rw[j.out];exact ak u.out) a5.out rfl ?_) iU;intro T U u5 u6 u7 u8 u9 i4 i5 i6 i7 i9 j0 j1 j2 j3 j4 j5 j6 j7 j8 j9 u32 k0 k1 k2 k3 k4 k5 k6 k7 k8 k9 l0 l1 l2 l3 l4 l5 l6 l7 l8 l9 m0 m1 m2 m3 m4 m5 m6 m7 m8 m9 n0 u64 n1 n2 n3 n4 n5 n6 n7 n8 n9 o0 o1 o2 o3 o4 o5 o6 o7 o8 o9 p0 p1 p2 p3 p4 p5 p6 p7 p8 p9 q0 q3 q4 q5 q6 q7 a8 a9 b0 b2 b4 b5 b6 b7 b8 b9 c1 c2 c3 c5 c6 c7 c8 c9 d0 d1 d2 d3 d4 d5 d6 d7 d8 d9 e0 e4 e5 e6 e7 e8 e9 f3 f4 f5 f6 f7 f8 f9 g0 g1 g2 g3 g4 g5 g6 g9 h3 h4 h5 h6 h7 h8 h9 i0 i1 i2 i3 wx V X G;have J:au _:=V;have L:au (wx.ownsRow w2.heap.size 55 1 (.slice U (4*M) T) (4*M) (dm (pU p.q M))):=(X:World.ownsRow _ _ _ _ _ _ _);have d:au (wx.heap[a+1]?=some (.cells #[.int .i64 0,.int .i64 0,.slice none 0 0] 35 (0,0))):=((G.block _ (aN l.out.2 y.out.size) (by have:=j.out;have:=l.out.2;omega)).trans ((y.out.block _ l.out.2).trans N.out):_=_);have a6:au (aA w.heap.size w wx):=(pY z.out G (by rw[j.out];exact c.out.size) (ah _):aA _ _ _);have a7:au (a+1<w2.heap.size):=(aN l.out.2 y.out.size:_<_);clear V X G;have Y:wx.cell? ⟨B,0,none⟩=some (.int .i64 (p.W:Int)):=by simpa using(cell_of J.out 0).1
 have Z:wx.cell? ⟨B,1,none⟩=some (.int .i64 (p.H:Int)):=by simpa using(cell_of J.out 1).1
 have z2:wx.cell? ⟨B,2,none⟩=some (.slice U (4*M) T):=by simpa using(cell_of J.out 2).1
 have r0:wx.cell? ⟨a+1,0,none⟩=some (.int .i64 0):=by simpa using(cell_of d.out 0).1
 have r1:wx.cell? ⟨a+1,1,none⟩=some (.int .i64 0):=by simpa using(cell_of d.out 1).1
 have r2:wx.cell? ⟨a+1,2,none⟩=some (.slice none 0 0):=by simpa using(cell_of d.out 2).1
 have f0:wx.frozen? ⟨a+1,0,none⟩=false:=by simpa using(cell_of d.out 0).2
 have f1:wx.frozen? ⟨a+1,1,none⟩=false:=by simpa using(cell_of d.out 1).2
 have f2:wx.frozen? ⟨a+1,2,none⟩=false:=by simpa using(cell_of d.out 2).2
 go_wp2_with fail
 have f:au _:=aed (.int .i64 (p.W:Int)) (.int .i64 (p.H:Int)) (.slice U (4*M) T) d.out;revert f;generalize World.setCell _ _ _=w9;intro f;have t0:w9.cell? ⟨a+1,0,none⟩=some (.int .i64 (p.W:Int)):=by simpa using(cell_of f.out.1 0).1
 have t1:w9.cell? ⟨a+1,1,none⟩=some (.int .i64 (p.H:Int)):=by simpa using(cell_of f.out.1 1).1
 have t2:w9.cell? ⟨a+1,2,none⟩=some (.slice U (4*M) T):=by simpa using(cell_of f.out.1 2).1
 refine a_ (v:= .agg #[.int .i64 (p.W:Int),.int .i64 (p.H:Int),.slice U (4*M) T]) (by simp[results,results8,go_sem,t0,t1,t2]) rfl ⟨_,rfl,ab_ (base:=w2.heap.size) ?_,pY a6.out f.out.2 (by have:=l.out.1;omega) (ah _)⟩;exact fE L.out (fun k hk=>f.out.2.block k (World.ownsRow.lt L.out k hk).2 (fun e=>by have:=(World.ownsRow.lt L.out k hk).1;have:=a7.out;omega))
end Kp
namespace Kp
open Go.RowKit Rf Cr
open Pr
structure Made(w:af)(p:Wk)(F:Nat->Nat)(ds:List (List UInt8))(z:Int)(pl fv:ay):Prop where
 ok:p.Ok
 fil:∀y,F y<=4
 ne:ds≠[]
 flat:ds.flatten=nR (1+(pk z 60000).toNat) (p.kJ F)
 zn:ds.length<=21
 wk:∀wx,aA w.heap.size w wx->aH prog 4 #[pl] wx fun e w'=> ∃v,e= .returned v/\iJ p w' v/\aA wx.heap.size wx w'
 ck:∀wx,aA w.heap.size w wx->aH prog 5 #[pl] wx fun e w'=> ∃(v:ay) (k:Nat),e= .returned (.tuple #[v,.int .i64 (k:Int)])/\w'.ownsRow wx.heap.size 9 1 v (kC p ds).length (nJ (kC p ds))/\k=1+(if p.oz=[]then 0 else 1)/\aA wx.heap.size wx w'
 rw:∀wx v,aA w.heap.size w wx->iJ p wx v->aH prog 13 #[v,fv] wx fun e w'=>e= .returned (.string ⟨(p.kJ F).toArray⟩)/\aA wx.heap.size wx w'
 im:∀wx v,aA w.heap.size w wx->iJ p wx v->aH prog 8 #[v] wx fun e w'=> ∃iv,e= .returned (.agg #[.int .i64 (p.W:Int),.int .i64 (p.H:Int),iv])/\uw w' iv (pU p.q (p.W*p.H))/\aA wx.heap.size wx w'
theorem zi{w w':af}{v:ay}{L:List Int}(h:gq w w.heap.size v L)(hb:aA w.heap.size w w'):gq w' w'.heap.size v L:=Gx h hb hb.size
theorem xe{w:af}{b:Nat}{v:ay}{L:List Int}(h:gq w b v L):uu v:=by obtain⟨la,cap,e,_⟩:=h;exact⟨la,_,cap,e⟩
theorem Wy(l:List Int):∀s,(mO l s).length=l.length+1:=by
 induction l with
 |nil=>intro s;simp[mO]
 |cons a l b=>intro s;simp[mO,b]
theorem acf(a b c z:Int)(I T:Bool)(ev k fv pv:ay)(E S j P:List Int)(w:af)(eb fb lb:bG)(hD:KT w eb fb lb)(B: -9223372036854775808<=a/\a<=9223372036854775807)(hb: -9223372036854775808<=b/\b<=9223372036854775807)(C: -9223372036854775808<=c/\c<=9223372036854775807)(r: -9223372036854775808<=z/\z<=9223372036854775807)
 (y:gq w w.heap.size ev E) (hS:gq w w.heap.size k S) (hF:gq w w.heap.size fv j) (A:gq w w.heap.size pv P):
 Made w (Lc a b c I T E S z) (Aw j) (mO (P.take 20) (nR (1+(pk z 60000).toNat) ((Lc a b c I T E S z).kJ (Aw j)))) z (yz a b c I ev T k fv pv z) fv:=by
 obtain⟨p,hp⟩:∃p,p=Lc a b c I T E S z:=⟨_,rfl⟩;have g:p.Ok:=by rw[hp];exact ab3 a b c I T E S z
 have f:=ZZ a b c I T E S z;have l:p.I=I:=by rw[hp];rfl
 rw[<-hp]at f|-;have m:4<w.heap.size:=aN (by decide) hD.ng;have n:∀wx,aA w.heap.size w wx->aH prog 4 #[yz a b c I ev T k fv pv z] wx fun e w'=> ∃v,e= .returned v/\iJ p w' v/\aA wx.heap.size wx w':=fun wx d=>by rw[hp];exact Ru a b c z I T ev k fv pv E S wx B hb C r (zi y d) (zi hS d) (xe hF) (xe A)
 have o:∀wx v,aA w.heap.size w wx->iJ p wx v->aH prog 13 #[v,fv] wx fun e w'=>e= .returned (.string ⟨(p.kJ (Aw j)).toArray⟩)/\aA wx.heap.size wx w':=fun wx v d q=>by obtain⟨s,t,u,rfl,D,F,G,H⟩:=q;exact aap p g s t u fv j wx D.sl F.sl G (zi hF d)
 have i:∀wx,aA w.heap.size w wx->∀h,aA wx.heap.size wx h->aA w.heap.size w h:=fun wx h1 h h2=>h1.trans (h2.mono h1.size);refine⟨g,Lj j,OC _ _,Rz _ _,?_,n,fun wx d=> ?_,o,fun wx v d q=>Lh p g f.1 v wx q⟩
 ·rw[Wy,eH];omega
 ·have:=RQ p g f.1 f.2 (Aw j) a b c z T ev k fv pv P wx (xe y) (xe hS) (xe hF) (zi A d) (Dc hD.tab m d) (aN m d.size) r.1 r.2
   (fun h x=>by rw[l];exact n h (i wx d h x)) (fun h v x q=>o h v (i wx d h x) q)
  rw[l]at this;exact this
theorem WA(ds:List (List UInt8)):(nP ds).length=ds.flatten.length+12*ds.length:=by
 induction ds with
 |nil=>rfl
 |cons d ds a=>rw[nP,aK,a,l_,List.flatten_cons,aK];have:DL.length=4:=rfl;simp only[List.length_cons];omega
theorem aar{p:Wk}(h:p.Ok):p.oz.length<=1600:=by
 have h1:=h.adW;have h2:(if p.K=3 then qV yt (BF p.E)else []).length<=780:=by
  split
  ·rename_i a;obtain⟨b,c,_⟩:=h.e3 a;rw[l_,qP];have:yt.length=4:=rfl;omega
  ·simp
 have d:(if p.C=[]then []else qV uM p.tr).length<=780:=by
  split
  ·simp
  ·rw[l_];have:uM.length=4:=rfl;omega
 unfold Wk.oz;rw[aK];omega
theorem OJ(p:Wk)(ds:List (List UInt8)):(p.text ds).length=33+p.oz.length+(ds.flatten.length+12*ds.length)+12:=by unfold Wk.text;have a:zN.length=8:=rfl;have b:tX.length=4:=rfl;have c:rE.length=4:=rfl;simp only[List.length_append,l_,vV,a,b,c,WA,List.length_nil];omega
theorem Made.short{w:af}{p:Wk}{F:Nat->Nat}{ds:List (List UInt8)}{z:Int}{pl fv:ay}(h:Made w p F ds z pl fv):45<=(p.text ds).length/\(p.text ds).length<=100000/\(kC p ds).length<=1000:=by have h1:=aar h.ok;have h2:=OI h.ok F (1+(pk z 60000).toNat);rw[<-h.flat]at h2;have a:=h.zn;refine⟨by rw[OJ];omega,by rw[OJ];omega,?_⟩;unfold kC;simp only[List.length_cons,List.length_append,List.length_map,List.length_nil];split<;>simp<;>omega
theorem Made.size{w:af}{p:Wk}{F:Nat->Nat}{ds:List (List UInt8)}{z:Int}{pl fv:ay}(h:Made w p F ds z pl fv):1<=1+(pk z 60000).toNat/\1+(pk z 60000).toNat<=65535:=by have:=rF z 60000 (by omega);omega
theorem Made.all{w:af}{p:Wk}{F:Nat->Nat}{ds:List (List UInt8)}{z:Int}{pl fv:ay}(h:Made w p F ds z pl fv):BK ⟨(p.text ds).toArray⟩ p.W p.H (pU p.q (p.W*p.H)):=
 Wk.Ok.all h.ok F h.fil (1+(pk z 60000).toNat) h.size.1 h.size.2 ds h.ne h.flat
end Kp
end Go.Proofs.YtephkcdbnogdhabGreatDoor
