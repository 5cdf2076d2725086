import Derived.Test.YtephkcdbnogdhabGreatDoorM28
import Derived.Test.YtephkcdbnogdhabGreatDoorM31
set_option linter.unusedVariables false
set_option maxHeartbeats 40000000
set_option maxRecDepth 10000
namespace Go.Proofs.YtephkcdbnogdhabGreatDoor
open Go.Proofs.Tryz
open Go renaming World->af,Value->ay,Calls->aH,Addr->bG
open Go.RowKit renaming Hid->au,Below->aA,intOf->bH
namespace Kp
open Go.RowKit Rf Cr
open Pr
open gI (b_ lV)
def Aw(L:List Int)(k:Nat):Nat:=(pk (oP L k) 5).toNat
theorem Lj(L:List Int)(k:Nat):Aw L k<=4:=by unfold Aw;have:=rF (oP L k) 5 (by omega);omega
theorem Wx{w:af}{base:Nat}{sl:ay}{L:List Int}(h:gq w base sl L)(k:Nat)(wx:af):aH prog 10 #[.int .i64 (oP L k),.int .i64 5] wx fun e w'=>e= .returned (.int .i64 ((Aw L k:Nat):Int))/\w'=wx:=by have h1:=rF (oP L k) 5 (by omega);have h2:=Gv h k;unfold Aw;rw[Int.toNat_of_nonneg h1.1];exact BG _ _ wx h2.1 h2.2 (by omega) (by omega)
def Jn(w:af)(base nb k:Nat)(ov bv:ay)(A:List Nat):Prop:=(k=0/\bv= .slice none 0 0)\/(0<k/\∃a b,bv= .slice (some ⟨a,0,none⟩) nb b/\w.ownsRow base 5 1 bv nb (kF A)/\ov.ownBlock≠some a)
theorem aan(w:af)(base n:Nat)(hb:base<=w.heap.size)(a:n<=1000):(w.alloc (.cells (madeCells #[.int .u8 0] n) 5)).ownsRow base 5 1 (.slice (some ⟨w.heap.size,0,none⟩) n n) n (kF (List.replicate n 0)):=by
 refine⟨by simp[kF],.inr ⟨w.heap.size,n,madeCells #[.int .u8 0] n,rfl,hb,aP w _,ah _,by unfold maxLen;omega,by rw[oU,Nat.mul_one],?_⟩⟩;apply List.ext_getElem
 ·simp[kF,madeCells]
 ·intro i h1 h2;simp[kF,madeCells];rw[Nat.mod_one];rfl
theorem Eg{w:af}{base g n cap:Nat}{L:List Nat}(h:w.ownsRow base 5 1 (.slice (some ⟨g,0,none⟩) n cap) n (kF L))(j:Nat)(a:j<n):w.cell? ⟨g,j,none⟩=some (.int .u8 ((L.getD j 0:Nat):Int)):=by
 have b:L.length=n:=by have:=h.1;rw[p_]at this;omega
 rw[h.cellAt j (by omega)];unfold kF;rw[fH,ag,aB (by omega)];rfl
theorem aao{bits:Nat}{R:jX->Nat->List Nat}{F:Nat->Nat}{a:List jX}{i:Nat}{t:jX}(h:a[i]?=some t)(c:Nat):uY bits R F c (a.drop i)=if t.W=0 then uY bits R F c (a.drop (i+1))else uX bits t.W (R t) (fun y=>F (c+y)) t.H 0++uY bits R F (c+t.H) (a.drop (i+1)):=by obtain⟨hi,rfl⟩:=List.getElem?_eq_some_iff.1 h;rw[kX hi,uY]
theorem acd(l:List (Nat×Nat×Nat×Nat)):∀(i:Nat) (q:Nat×Nat×Nat×Nat),l[i]?=some q->(K_ l)[i*4]?=some (.int .i64 (q.1:Int))/\(K_ l)[i*4+1]?=some (.int .i64 (q.2.1:Int))/\(K_ l)[i*4+2]?=some (.int .i64 (q.2.2.1:Int))/\(K_ l)[i*4+3]?=some (.int .i64 (q.2.2.2:Int)):=by
 induction l with
 |nil=>intro i q h;simp at h
 |cons a l b=>
  intro i q h;cases i with
  |zero=>simp at h;subst h;simp[K_]
  |succ i=>have:=b i q (by simpa using h);rw[show(i+1)*4=i*4+4 by omega];simpa [K_]using this
theorem RJ(L:List Nat)(h:∀x∈L,x<=255):lI.byteCells (L.map UInt8.ofNat)=kF L:=by unfold lI.byteCells kF;rw[List.map_map];apply List.map_congr_left;intro x a;have:=h x a;simp;omega
theorem zh{wr w2:af}{base nb cap:Nat}{ov:ay}{A:List ay}{g:Nat}(z:Obj)(h:wr.ownsRow base 5 1 (.slice (some ⟨g,0,none⟩) nb cap) nb A)(a:ov.ownBlock≠some g)(c:(wr.alloc z).grownBy w2 ov.ownBlock):w2.ownsRow base 5 1 (.slice (some ⟨g,0,none⟩) nb cap) nb A:=by
 have b:=(h.lt g rfl).2;exact fZ h (fun k d=>by
  obtain rfl:g=k:=by simpa [Value.ownBlock]using d
  exact(c.block g (by simp;omega) (fun e=>a e.symm)).trans (alloc_old b))
theorem ace(w:af)(b:Option bG)(la lc:Nat):(binOp BinOp.eql 39 (.slice b la lc) (.slice none 0 0)).run prog w= .ok (.bool b.isNone) w:=by
 cases b with
 |none=>kernel_rfl
 |some a=>kernel_rfl
theorem aap(p:Wk)(hp:p.Ok)(ev cv sv fv:ay)(E:List Int)(w:af)(h1:uu ev)(h2:uu cv)(hS:ji w w.heap.size sv p.S)(hF:gq w w.heap.size fv E):
 aH prog 13 #[pW p.W p.H p.K p.D p.I ev cv sv,fv] w fun e w'=>e= .returned (.string ⟨(p.kJ (Aw E)).toArray⟩)/\aA w.heap.size w w':=by
 obtain⟨a1,n1,c1,rfl⟩:=h1;obtain⟨a2,n2,c2,rfl⟩:=h2;obtain⟨a3,c3,rfl,w7,-⟩:=hS.at';obtain⟨a4,c4,o5,x4⟩:∃la cap,fv= .slice la E.length cap/\E.length<=140737488351232:=by obtain⟨la,cap,e,h,_⟩:=id hF;exact⟨la,cap,e,h⟩
 subst o5;obtain⟨n,hn⟩:∃n,n=aT p.K:=⟨_,rfl⟩;have i1:1<=n/\n<=4:=by rw[hn];rcases hp.kinds with e|e|e|e|e<;>rw[e]<;>decide
 have c8:1<=p.D/\p.D<=16:=by have:=hp.depth;unfold eG at this;omega
 have u7:=hp.w2;have u9:=hp.h2;have o6:au (∀(wx:af),aA w.heap.size w wx->∀y x0 sx y0 sy:Nat,y<p.H->1<=sx->sx<=8->x0<=8->y0<=8->sy<=8->aH prog 24 #[.agg #[.int .i64 (p.W:Int),.int .i64 (p.H:Int),.int .i64 (p.K:Int),.int .i64 (p.D:Int),.bool p.I,.slice a1 n1 c1,.slice a2 n2 c2,.slice a3 p.S.length c3],.int .i64 (y:Int),.agg #[.int .i64 (x0:Int),.int .i64 (sx:Int),.int .i64 (y0:Int),.int .i64 (sy:Int)]] wx fun e w'=> ∃v,e= .returned v/\w'.ownsRow wx.heap.size 5 1 v (bJ (p.D*n) (gI.manyN x0 sx p.W)) (kF (Am p.D (p.yu (y*p.W+x0) sx (gI.manyN x0 sx p.W)) (bJ (p.D*n) (gI.manyN x0 sx p.W))))/\aA wx.heap.size wx w'):=(fun wx hb y x0 sx y0 sy b1 b2 b3 b4 b5 b6=>by rw[hn];exact RG p hp _ _ _ y x0 sx y0 sy wx ⟨_,_,_,rfl⟩ ⟨_,_,_,rfl⟩ (ji.up hS hb) b1 b2 b3 b4 b5 b6:∀wx,_)
 have o7:au (∀(wx:af),aA w.heap.size w wx->∀k:Nat,k<=1000000->aH prog 11 #[.slice a4 E.length c4,.int .i64 (k:Int)] wx fun e w'=>e= .returned (.int .i64 (oP E k))/\w'=wx):=(fun wx hb k hk=>yZ _ E k w.heap.size wx (gq.over hF (fun k hk=>hb.block k hk)) hk:∀wx,_);have o8:au (∀(k:Nat) (wx:af),aH prog 10 #[.int .i64 (oP E k),.int .i64 5] wx fun e w'=>e= .returned (.int .i64 ((Aw E k:Nat):Int))/\w'=wx):=(fun k wx=>Wx hF k wx:∀k,_);have x5:au (∀k,-9223372036854775808<=oP E k/\oP E k<=9223372036854775807):=(fun k=>Gv hF k:∀k,_);have k4:au (∀wx:af,aH prog 12 #[.agg #[.int .i64 (p.W:Int),.int .i64 (p.H:Int),.int .i64 (p.K:Int),.int .i64 (p.D:Int),.bool p.I,.slice a1 n1 c1,.slice a2 n2 c2,.slice a3 p.S.length c3]] wx fun e w'=>e= .returned (.int .i64 (n:Int))/\w'=wx.alloc (oC p.W p.H p.K p.D p.I (.slice a1 n1 c1) (.slice a2 n2 c2) (.slice a3 p.S.length c3))):=(fun wx=>by rw[hn];exact pX p.W p.H p.K p.D p.I _ _ _ wx ⟨_,_,_,rfl⟩ ⟨_,_,_,rfl⟩ ⟨_,_,_,rfl⟩ hp.kinds:∀wx,_)
 obtain⟨Y,f0⟩:∃Y,Y=p.rows (Aw E):=⟨_,rfl⟩;obtain⟨RV,i2⟩:∃RV:ByteArray,RV=⟨(p.kJ (Aw E)).toArray⟩:=⟨_,rfl⟩;rw[<-i2];have k5:au _:=fun wx=>ZX p.I wx;have k6:au _:=gI.Rj (if p.I=true then 1 else 0) (by split<;>omega);have k7:au (Y=uY (p.D*n) p.row (Aw E) 0 ((b_ (if p.I=true then 1 else 0)).map (lV p.W p.H))):=(by rw[f0,hn];rfl:_=_);have x6:Y.length<=4000:=by rw[f0];exact hp.zn _
 have k8:au (RV=⟨(Y.map UInt8.ofNat).toArray⟩/\∀x∈Y,x<=255):=(⟨by rw[i2,f0];rfl,by rw[k7.out];exact TC _ _ _ (Lj E) _ _⟩:_/\_);have k9:au (∀t y,p.row t y=Am p.D (p.yu ((t.y+y*t.sy)*p.W+t.x) t.sx t.W) (bJ (p.D*n) t.W)):=(fun t y=>by rw[hn];rfl:∀t y,_);have o9:au (∀t y,(p.row t y).length=bJ (p.D*n) t.W/\∀x∈p.row t y,x<=255):=(fun t y=>by rw[k9.out];exact⟨Oo _ _ _,TD _ _ _⟩:∀t y,_);generalize b_ (if p.I=true then 1 else 0)=l at*;have p0:=k6.out.1;clear hS hF f0 i2 hn hp;have p1:au (∀k,Aw E k<=4):=(Lj E:∀k,_);generalize oP E=AF at*;generalize Aw E=FF at*;unfold pW;go_enter func13,ntmps13
 go_upto_region 1 with fail
 have HX:au ((w.alloc (.cells #[.int .i64 (p.W:Int),.int .i64 (p.H:Int),.int .i64 (p.K:Int),.int .i64 (p.D:Int),.bool p.I,.slice a1 n1 c1,.slice a2 n2 c2,.slice a3 p.S.length c3] 26)).heap[w.heap.size]?=some (.cells #[.int .i64 (p.W:Int),.int .i64 (p.H:Int),.int .i64 (p.K:Int),.int .i64 (p.D:Int),.bool p.I,.slice a1 n1 c1,.slice a2 n2 c2,.slice a3 p.S.length c3] 26 (0,0))):=(aP w _:_=_);have f1:au (aA w.heap.size w (w.alloc (.cells #[.int .i64 (p.W:Int),.int .i64 (p.H:Int),.int .i64 (p.K:Int),.int .i64 (p.D:Int),.bool p.I,.slice a1 n1 c1,.slice a2 n2 c2,.slice a3 p.S.length c3] 26))):=((aV w.heap.size w).alloc (ah _) _:aA _ _ _);obtain⟨G,i3⟩:∃G,G=w.heap.size:=⟨_,rfl⟩;rw[show(⟨w.heap.size,0,none⟩:bG)=⟨G,0,none⟩by rw[i3]];rw[<-i3]at HX;clear i3;revert f1 HX;generalize w.alloc _=w0;intro f1 HX;have p2:au _:=ak HX.out;have d0:au (∀wx,aA w0.heap.size w0 wx->wx.cell? ⟨G,0,none⟩=some (.int .i64 (p.W:Int))/\wx.cell? ⟨G,1,none⟩=some (.int .i64 (p.H:Int))/\wx.cell? ⟨G,2,none⟩=some (.int .i64 (p.K:Int))/\wx.cell? ⟨G,3,none⟩=some (.int .i64 (p.D:Int))/\wx.cell? ⟨G,4,none⟩=some (.bool p.I)/\wx.cell? ⟨G,5,none⟩=some (.slice a1 n1 c1)/\wx.cell? ⟨G,6,none⟩=some (.slice a2 n2 c2)/\wx.cell? ⟨G,7,none⟩=some (.slice a3 p.S.length c3)):=(fun wx hb=>by have h:=(hb.block _ p2.out).trans HX.out;exact⟨by simpa using(cell_of h 0).1,by simpa using(cell_of h 1).1,by simpa using(cell_of h 2).1,by simpa using(cell_of h 3).1,by simpa using(cell_of h 4).1,by simpa using(cell_of h 5).1,by simpa using(cell_of h 6).1,by simpa using(cell_of h 7).1⟩:∀wx,_)
 have i4:au (∀wx,aA w0.heap.size w0 wx->aA w.heap.size w wx):=(fun wx hb=>f1.out.trans (hb.mono f1.out.size):∀wx,_);obtain⟨q0,q1,q2,q3,q4,q5,q6,q7⟩:=d0.out w0 (aV _ _);obtain⟨m1,d2⟩:∃m1,m1=n*p.D:=⟨_,rfl⟩;have v5:m1<=4*16:=by rw[d2];exact bD i1.2 c8.2
 have v1:(n:Int)*(p.D:Int)=(m1:Int):=by rw[<-jK,<-d2]
 have p3:IntKind.i64.wrap ((n:Int)*(p.D:Int))=(m1:Int):=by rw[v1,eY];omega
 obtain⟨d,hd⟩:∃d,d=Pr.aJ (p.D*n):=⟨_,rfl⟩;have x7:1<=d/\d<=8:=by rw[hd];unfold Pr.aJ;rw[eP p.D n,<-d2];omega
 have HD:au (d=Pr.aJ (p.D*n)/\d=max 1 (m1/8)):=(⟨hd,by rw[hd];unfold Pr.aJ;rw[eP p.D n,<-d2]⟩:_/\_);obtain⟨e8,l0⟩:∃e8,e8=m1/8:=⟨_,rfl⟩;have v3:IntKind.i64.wrap ((m1:Int)/8)=(e8:Int):=by rw[eY];omega
 have v7:e8<=8:=by omega
 rw[<-l0]at HD;clear d2 hd l0 v1
 go_region_held (fun w'=>w'.cell? ⟨G,0,none⟩=some (.int .i64 (p.W:Int))/\w'.cell? ⟨G,1,none⟩=some (.int .i64 (p.H:Int))/\w'.cell? ⟨G,2,none⟩=some (.int .i64 (p.K:Int))/\w'.cell? ⟨G,3,none⟩=some (.int .i64 (p.D:Int))/\w'.cell? ⟨G,4,none⟩=some (.bool p.I)/\w'.cell? ⟨G,5,none⟩=some (.slice a1 n1 c1)/\w'.cell? ⟨G,6,none⟩=some (.slice a2 n2 c2)/\w'.cell? ⟨G,7,none⟩=some (.slice a3 p.S.length c3))
  (first|go_keep) (first
  |(go_at_call 12;go_must (refine aU (k4.out _) ?_;rintro e P ⟨rfl,rfl⟩)))
 have a8:au (aA w0.heap.size w0 (w0.alloc (oC p.W p.H p.K p.D p.I (.slice a1 n1 c1) (.slice a2 n2 c2) (.slice a3 p.S.length c3))).drew):=(((aV w0.heap.size w0).alloc (ah _) _).drew:aA _ _ _);revert a8;generalize (w0.alloc (oC p.W p.H p.K p.D p.I (.slice a1 n1 c1) (.slice a2 n2 c2) (.slice a3 p.S.length c3))).drew=w1;intro a8;clear q0 q1 q2 q3 q4 q5 q6 q7 p3 v3 k4;obtain⟨q0,q1,q2,q3,q4,q5,q6,q7⟩:=d0.out w1 a8.out;go_upto_if 25 with fail
 go_cut [5] (fun v wx=>v= .int .i64 (d:Int)/\wx=w1)
 case first=>
  by_cases h0:e8=0
  ·have l3:d=1:=by have:=HD.out.2;omega
   subst h0;have i5:au _:=l3;clear l3;go_wp2_with fail
   go_meet
   case rel=>exact⟨by rw[i5.out];rfl,rfl⟩
  ·have d1:((e8:Int)==0)=false:=by rw[aI];omega
   have i5:au (d=e8):=(by have:=HD.out.2;omega:_=_);go_wp2_with fail
   go_meet
   case rel=>exact⟨by rw[i5.out],rfl⟩
 case rest=>
  obtain⟨rfl,d3⟩:=hcut;subst d3;go_wp2_with fail
  refine aU (k5.out _) ?_;rintro e w2 ⟨rfl,i6⟩;have HG:au (w2.heap[wc.heap.size]?=some (.cells (K_ l).toArray 61 (0,0))):=(by rw[i6];exact aP wc _:_=_);have l4:au (aA w0.heap.size w0 w2):=(by rw[i6];exact a8.out.alloc a8.out.size _:aA _ _ _);obtain⟨gw,l5⟩:∃gw,gw=wc.heap.size:=⟨_,rfl⟩;rw[<-l5]at HG|-;have p4:au _:=ak HG.out;obtain⟨n7,i7⟩:∃n7,n7=l.length:=⟨_,rfl⟩;rw[<-i7]at p0|-;have l6:au _:=i7;clear i6 l5 i7 q0 q1 q2 q3 q4 q5 q6 q7 a8 k5;have a9:au (∀wx,aA w2.heap.size w2 wx->aA w0.heap.size w0 wx):=(fun wx hb=>l4.out.trans (hb.mono l4.out.size):∀wx,_);go_wp2_with fail
  go_loopw [6,8,9] (fun ov av iv wr=> ∃(i c m:Nat) (L:List Nat) (J:Option bG) (z:Nat),ov= .slice J m z/\av= .int .i64 (c:Int)/\iv= .int .i64 (i:Int)/\i<=n7/\c<=m/\m<=4000/\au (m=L.length/\L++uY (p.D*n) p.row FF c ((l.map (lV p.W p.H)).drop i)=Y)/\au (wr.ownsRow w2.heap.size 5 1 (.slice J m z) m (kF L))/\au (aA w2.heap.size w2 wr)) (fun _ _ iv _=>n7-(bH iv).toNat)
  case atStart=>exact⟨0,0,0,[],none,0,rfl,rfl,rfl,by omega,by omega,by omega,(⟨rfl,by rw[k7.out];rfl⟩:_/\_),(eX _ _ _ _:World.ownsRow _ _ _ _ _ _ _),(aV _ _:aA _ _ _)⟩
  case round=>
   obtain⟨i,c,m,L,J,z,rfl,rfl,rfl,hi,d4,hm,HL,HO,HB⟩:=hrel;obtain⟨q0,q1,q2,q3,q4,q5,q6,q7⟩:=d0.out wr (a9.out wr HB.out);by_cases x8:i<n7;rotate_left
   ·have HE:au (wr.ownsRow w2.heap.size 5 1 (.slice J m z) (Y.map UInt8.ofNat).length (lI.byteCells (Y.map UInt8.ofNat))):=(by
     obtain⟨g1,g2⟩:=HL.out;have p5:l.length<=i:=by have:=l6.out;omega
     rw[List.drop_eq_nil_of_le (by simpa using p5),uY,kU]at g2;rw[RJ Y k8.out.2,kT,<-g2,<-g1];exact HO.out:World.ownsRow _ _ _ _ _ _ _)
    have x9:(convert 39 9 (.slice J m z)).run prog wr= .ok (.string RV) wr:=by rw[k8.out.1];exact ZV _ HE.out 0
    have p6:au _:=i4.out wr (a9.out wr HB.out);go_wp2_with fail
    go_ret;exact⟨rfl,p6.out⟩
   have p7:i<l.length:=by have:=l6.out;omega
   obtain⟨q,hq⟩:∃q,l[i]?=some q:=⟨_,aB p7⟩;obtain⟨x0,x1,x2,x3⟩:=acd l i q hq;have Q:=(HB.out.block gw p4.out).trans HG.out;have y0:wr.cell? ⟨gw,i*4,none⟩=some (.int .i64 (q.1:Int)):=(cell_of Q _).1.trans (by simpa using x0);have y1:wr.cell? ⟨gw,i*4+1,none⟩=some (.int .i64 (q.2.1:Int)):=(cell_of Q _).1.trans (by simpa using x1);have y2:wr.cell? ⟨gw,i*4+2,none⟩=some (.int .i64 (q.2.2.1:Int)):=(cell_of Q _).1.trans (by simpa using x2);have y3:wr.cell? ⟨gw,i*4+3,none⟩=some (.int .i64 (q.2.2.2:Int)):=(cell_of Q _).1.trans (by simpa using x3);have l7:=k6.out.2 q (iY hq);have l8:au ((l.map (lV p.W p.H))[i]?=some (lV p.W p.H q)):=(by rw[fH,hq];rfl:_=_);obtain⟨o,B,r,b⟩:=q;dsimp only at y0 y1 y2 y3 l7;obtain⟨b1,b2,b3,b4,b5,b6⟩:=l7;have y4:(i:Int)<(n7:Int):=by omega
   clear hq x0 x1 x2 x3 Q;go_upto_region 11 with fail
   obtain⟨s,i9⟩:∃s,s=wr.heap.size:=⟨_,rfl⟩;rw[<-i9];have T:au ((wr.alloc (.cells #[.int .i64 (o:Int),.int .i64 (B:Int),.int .i64 (r:Int),.int .i64 (b:Int)] 61)).heap[s]?=some (.cells #[.int .i64 (o:Int),.int .i64 (B:Int),.int .i64 (r:Int),.int .i64 (b:Int)] 61 (0,0))):=(by rw[i9];exact aP wr _:_=_);have b0:au (aA w2.heap.size w2 (wr.alloc (.cells #[.int .i64 (o:Int),.int .i64 (B:Int),.int .i64 (r:Int),.int .i64 (b:Int)] 61))):=(HB.out.alloc HB.out.size _:aA _ _ _);have d5:au ((wr.alloc (.cells #[.int .i64 (o:Int),.int .i64 (B:Int),.int .i64 (r:Int),.int .i64 (b:Int)] 61)).ownsRow w2.heap.size 5 1 (.slice J m z) m (kF L)):=(jS HO.out ((aV wr.heap.size wr).alloc (ah _) _):World.ownsRow _ _ _ _ _ _ _);revert T b0 d5;generalize wr.alloc _=w3;intro T b0 d5;clear i9;clear HO HB y0 y1 y2 y3 q0 q1 q2 q3 q4 q5 q6 q7;obtain⟨q0,q1,q2,q3,q4,q5,q6,q7⟩:=d0.out w3 (a9.out w3 b0.out);have z0:w3.cell? ⟨s,0,none⟩=some (.int .i64 (o:Int)):=by simpa using(cell_of T.out 0).1
   have z1:w3.cell? ⟨s,1,none⟩=some (.int .i64 (B:Int)):=by simpa using(cell_of T.out 1).1
   have z2:w3.cell? ⟨s,2,none⟩=some (.int .i64 (r:Int)):=by simpa using(cell_of T.out 2).1
   have z3:w3.cell? ⟨s,3,none⟩=some (.int .i64 (b:Int)):=by simpa using(cell_of T.out 3).1
   obtain⟨N,hN⟩:∃N,N=gI.manyN o B p.W:=⟨_,rfl⟩;obtain⟨M,hM⟩:∃M,M=gI.manyN r b p.H:=⟨_,rfl⟩;have f2:au _:=aao (bits:=p.D*n) (R:=p.row) (F:=FF) l8.out c;have f3:au ((lV p.W p.H (o,B,r,b)).W=N/\(lV p.W p.H (o,B,r,b)).H=M):=(⟨hN.symm,hM.symm⟩:_/\_);rw[f3.out.1,f3.out.2]at f2;by_cases y5:o<p.W;rotate_left
   ·have p8:¬((o:Int)<(p.W:Int)):=by omega
    have p9:(p.W:Int)<=(o:Int):=by omega
    have l9:N=0:=by rw[hN];unfold gI.manyN;rw[aG (by omega)]
    have j0:au (m=L.length/\L++uY (p.D*n) p.row FF c ((l.map (lV p.W p.H)).drop (i+1))=Y):=(by have h:=f2.out;rw[aG l9]at h;rw[<-h];exact HL.out:_/\_)
    clear hN hM l9;go_wp2_with fail
    go_roundw
    case rel=>exact⟨i+1,c,m,L,J,z,rfl,rfl,by go_num,by omega,d4,hm,j0,d5,b0⟩
    case measure=>simp[bH];omega
   have p8:(o:Int)<(p.W:Int):=by omega
   have p9:¬((p.W:Int)<=(o:Int)):=by omega
   have q8:1<=N:=by rw[hN];unfold gI.manyN;rw[ax (by omega)];exact Nat.le_add_left 1 _
   have m0:au (∀k,k<M↔r+k*b<p.H):=(fun k=>by rw[hM];exact uK b5:∀k,_);obtain⟨nb,b7⟩:∃nb,nb=bJ (p.D*n) N:=⟨_,rfl⟩;have m2:N<=20:=by
    rw[hN];unfold gI.manyN;split
    ·omega
    ·have:=Nat.div_le_self (p.W-o-1) B;omega
   have v8:1<=nb/\nb<=200:=by have h1:1*1<=p.D*n:=bD c8.1 i1.1;have h2:p.D*n<=16*4:=bD c8.2 i1.2;have h3:1*1<=N*(p.D*n):=bD q8 (by omega);have h4:N*(p.D*n)<=20*64:=bD m2 h2;rw[b7];unfold bJ;omega
   obtain⟨R,hR⟩:∃R:Nat->List Nat,R=p.row (lV p.W p.H (o,B,r,b)):=⟨_,rfl⟩;have m4:au (∀k,R k=Am p.D (p.yu ((r+k*b)*p.W+o) B N) nb):=(fun k=>by rw[hR,k9.out,b7,hN];rfl:∀k,_);have m5:au (∀k,(R k).length=nb/\∀x∈R k,x<=255):=(fun k=>by rw[hR,b7,<-f3.out.1];exact o9.out _ k:∀k,_);obtain⟨RP,j1⟩:∃RP,RP=uY (p.D*n) p.row FF (c+M) ((l.map (lV p.W p.H)).drop (i+1)):=⟨_,rfl⟩;have j2:au (m=L.length/\L++(uX (p.D*n) N R (fun y=>FF (c+y)) M 0++RP)=Y):=(by have h:=f2.out;rw[ax (by omega),<-j1,<-hR]at h;rw[<-h];exact HL.out:_/\_)
   have q9:au _:=j1;have r0:au (∀(wx:af),aA w.heap.size w wx->∀y k:Nat,y<p.H->y=r+k*b->aH prog 24 #[.agg #[.int .i64 (p.W:Int),.int .i64 (p.H:Int),.int .i64 (p.K:Int),.int .i64 (p.D:Int),.bool p.I,.slice a1 n1 c1,.slice a2 n2 c2,.slice a3 p.S.length c3],.int .i64 (y:Int),.agg #[.int .i64 (o:Int),.int .i64 (B:Int),.int .i64 (r:Int),.int .i64 (b:Int)]] wx fun e w'=> ∃v,e= .returned v/\w'.ownsRow wx.heap.size 5 1 v nb (kF (R k))/\aA wx.heap.size wx w'):=(fun wx hb y k hy he=>by have h:=o6.out wx hb y o B r b hy b2 b3 b1 b4 b6;rw[<-hN,<-b7,he,<-m4.out k,<-he]at h;exact h:∀wx,_)
   have r1:au _:=b7;clear hN hM b7 hR j1 m4 f2 f3 l8 HL;go_wp2_with fail
   clear q0 q1 q2 q3 q4 q5 q6 q7 z0 z1 z2 z3;go_loopw [6,8,11,12] (fun ov av bv yv wr=> ∃(k m cc y:Nat) (L:List Nat) (J:Option bG) (z:Nat),ov= .slice J m z/\av= .int .i64 (cc:Int)/\yv= .int .i64 (y:Int)/\k<=M/\cc<=m/\m<=4000/\y<=30/\au (cc=c+k/\y=r+k*b/\m=L.length/\L++(uX (p.D*n) N R (fun y=>FF (c+y)) (M-k) k++RP)=Y)/\au (Jn wr w2.heap.size nb k (.slice J m z) bv (R (k-1)))/\au (wr.ownsRow w2.heap.size 5 1 (.slice J m z) m (kF L))/\au (aA w2.heap.size w2 wr)/\au (wr.heap[s]?=some (.cells #[.int .i64 (o:Int),.int .i64 (B:Int),.int .i64 (r:Int),.int .i64 (b:Int)] 61 (0,0)))) (fun _ _ _ yv _=>40-(bH yv).toNat)
   case atStart=>exact⟨0,m,c,r,L,J,z,rfl,rfl,rfl,aX _,d4,hm,by omega,(⟨rfl,by omega,j2.out.1,j2.out.2⟩:_/\_/\_/\_),(.inl ⟨rfl,rfl⟩:Jn _ _ _ _ _ _ _),d5,b0,T⟩
   case round=>
    clear j2 d5 b0 T d4 hm;obtain⟨k,m,cc,y,L,J,z,rfl,rfl,rfl,hk,d4,hm,hy,HK,HA,HO,HB,HW⟩:=hrel;obtain⟨q0,q1,q2,q3,q4,q5,q6,q7⟩:=d0.out wr (a9.out wr HB.out);have z0:wr.cell? ⟨s,0,none⟩=some (.int .i64 (o:Int)):=by simpa using(cell_of HW.out 0).1
    have z1:wr.cell? ⟨s,1,none⟩=some (.int .i64 (B:Int)):=by simpa using(cell_of HW.out 1).1
    have z2:wr.cell? ⟨s,2,none⟩=some (.int .i64 (r:Int)):=by simpa using(cell_of HW.out 2).1
    have z3:wr.cell? ⟨s,3,none⟩=some (.int .i64 (b:Int)):=by simpa using(cell_of HW.out 3).1
    by_cases r2:k<M;rotate_left
    ·have r3:¬((y:Int)<(p.H:Int)):=by
      have h1:=HK.out.2.1;intro hc;have:=(m0.out k).2 (by omega);omega
     have j0:au (m=L.length/\L++uY (p.D*n) p.row FF cc ((l.map (lV p.W p.H)).drop (i+1))=Y):=(by
      obtain⟨g1,g2,g3,g4⟩:=HK.out;have r4:k=M:=by omega
      rw[show M-k=0 by omega,uX,yD,q9.out,<-r4,<-g1]at g4;exact⟨g3,g4⟩:_/\_)
     go_wp2_with fail
     go_roundw
     case rel=>exact⟨i+1,cc,m,L,J,z,rfl,rfl,by go_num,by omega,d4,hm,j0,HO,HB⟩
     case measure=>simp[bH];omega
    have r5:y<p.H:=by rw[HK.out.2.1];exact(m0.out k).1 r2
    have r3:(y:Int)<(p.H:Int):=by omega
    have m6:au _:=r0.out wr (i4.out wr (a9.out wr HB.out)) y k r5 HK.out.2.1;go_wp2_with fail
    refine aU m6.out ?_;rintro e P ⟨v,rfl,f4,d6⟩;obtain⟨Z,cr,rfl⟩:∃Z cr,v= .slice (some ⟨Z,0,none⟩) nb cr:=by
     rcases f4.2 with⟨_,h0⟩|⟨g,cp,_,e,_⟩
     ·omega
     ·exact⟨g,cp,e⟩
    have j3:au (P.ownsRow w2.heap.size 5 1 (.slice (some ⟨Z,0,none⟩) nb cr) nb (kF (R k))):=(r_ f4 HB.out.size:World.ownsRow _ _ _ _ _ _ _);have f5:au (aA w2.heap.size w2 P):=(HB.out.trans (d6.mono HB.out.size):aA _ _ _);have f6:au _:=jS HO.out d6;have f7:au (P.heap[s]?=some (.cells #[.int .i64 (o:Int),.int .i64 (B:Int),.int .i64 (r:Int),.int .i64 (b:Int)] 61 (0,0))):=((d6.block s (ak HW.out)).trans HW.out:_=_);have j4:au ((Value.slice J m z).ownBlock≠some Z):=(fun e=>by have h1:=(HO.out.lt Z e).2;have h2:=(f4.lt Z rfl).1;omega:_≠_)
    have j5:au (Jn P w2.heap.size nb k (.slice J m z) u11 (R (k-1))):=(by
     rcases HA.out with h|⟨h1,U,ca,h2,h3,h4⟩
     ·exact .inl h
     ·exact .inr ⟨h1,U,ca,h2,jS h3 d6,h4⟩:Jn _ _ _ _ _ _ _)
    obtain⟨A,hA⟩:∃A,A=if k=0 then List.replicate nb 0 else R (k-1):=⟨_,rfl⟩
    have f8:au (∀j,A.getD j 0=(if k=0 then []else R (k-1)).getD j 0/\A.getD j 0<=255):=(fun j=>by
     rw[hA];split
     ·simp[List.getD_eq_getElem?_getD,List.getElem?_replicate];split<;>simp
     ·exact⟨rfl,oq (m5.out (k-1)).2 j⟩:∀j,_)
    have m7:au _:=hA;obtain⟨ao,la,lc,m8⟩:∃ao la lc,u11= .slice ao la lc:=by
     rcases j5.out with⟨_,h⟩|⟨_,U,ca,h,_⟩
     ·exact⟨_,_,_,h⟩
     ·exact⟨_,_,_,h⟩
    subst m8;obtain⟨ZB,j6⟩:∃ZB,ZB=ao.isNone:=⟨_,rfl⟩;have m9:=ace P ao la lc;rw[<-j6]at m9;have n0:au _:=j6;clear j6;clear hA f4 d6 HO HB HW HA m6 q0 q1 q2 q3 q4 q5 q6 q7 z0 z1 z2 z3;go_upto_if 59 with fail
    go_cut [11]from 46 to 116 (fun bv wx=> ∃(U ca:Nat),bv= .slice (some ⟨U,0,none⟩) nb ca/\au (wx.ownsRow w2.heap.size 5 1 (.slice (some ⟨U,0,none⟩) nb ca) nb (kF A))/\au (wx.ownsRow w2.heap.size 5 1 (.slice (some ⟨Z,0,none⟩) nb cr) nb (kF (R k)))/\au (wx.ownsRow w2.heap.size 5 1 (.slice J m z) m (kF L))/\au (aA w2.heap.size w2 wx)/\au (wx.heap[s]?=some (.cells #[.int .i64 (o:Int),.int .i64 (B:Int),.int .i64 (r:Int),.int .i64 (b:Int)] 61 (0,0)))/\au ((Value.slice J m z).ownBlock≠some U))
    case first=>
     rcases j5.out with⟨n3,j7⟩|⟨r6,U,ca,j7,n4,n5⟩
     ·injection j7 with e1 e2 e3
      subst e1 e2 e3;obtain rfl:ZB=true:=n0.out;have y6:=wM P nb (by omega);have n6:=f5.out.size;have r7:au ((P.alloc (.cells (madeCells #[.int .u8 0] nb) 5)).ownsRow w2.heap.size 5 1 (.slice (some ⟨P.heap.size,0,none⟩) nb nb) nb (kF A)):=(by rw[m7.out,aG n3];exact aan P _ nb n6 (by omega):World.ownsRow _ _ _ _ _ _ _);have f9:aA P.heap.size P (P.alloc (.cells (madeCells #[.int .u8 0] nb) 5)):=(aV _ _).alloc (ah _) _;have r8:au (aA w2.heap.size w2 (P.alloc (.cells (madeCells #[.int .u8 0] nb) 5))):=(f5.out.alloc n6 _:aA _ _ _);have r9:au _:=jS j3.out f9;have s0:au _:=jS f6.out f9;have s3:au _:=(f9.block s (ak f7.out)).trans f7.out;have s4:au ((Value.slice J m z).ownBlock≠some P.heap.size):=(fun e=>by have:=(World.ownsRow.lt f6.out _ e).2;omega:_≠_);clear f9 n3;go_wp2_with fail
      go_meet
      case rel=>exact⟨P.heap.size,nb,rfl,r7,r9,s0,r8,s3,s4⟩
     ·injection j7 with e1 e2 e3
      subst e1;have e2:=e2.symm;have e3:=e3.symm;subst e2 e3;obtain rfl:ZB=false:=n0.out;have d7:au (P.ownsRow w2.heap.size 5 1 (.slice (some ⟨U,0,none⟩) nb ca) nb (kF A)):=(by rw[m7.out,ax (by omega)];exact n4:World.ownsRow _ _ _ _ _ _ _);have s5:au _:=n5;clear n4 n5 r6;go_wp2_with fail
      go_meet
      case rel=>exact⟨U,ca,rfl,d7,j3,f6,f5,f7,s5⟩
    case rest=>
     obtain⟨U,ca,rfl,d7,j8,g0,g5,d8,j9⟩:=hcut;clear j5 j3 f6 f5 f7;have n8:au _:=o7.out wc (i4.out wc (a9.out wc g5.out)) cc (by omega);have k0:au _:=o8.out cc;obtain⟨f,hf⟩:∃f,f=FF cc:=⟨_,rfl⟩;have s6:f<=4:=by rw[hf];exact p1.out cc
     rw[<-hf]at k0;generalize AF cc=az at*;have h9:=g5.out.size;have k1:au (L++f::(Ak f d (R k) (if k=0 then []else R (k-1)) nb++(uX (p.D*n) N R (fun y=>FF (c+y)) (M-(k+1)) (k+1)++RP))=Y/\y+b=r+(k+1)*b/\cc+1=c+(k+1)/\m=L.length):=(by obtain⟨g1,g2,g3,g4⟩:=HK.out;refine⟨?_,by rw[g2,eF,m_];omega,by omega,g3⟩;rw[show M-k=(M-(k+1))+1 by omega,uX,<-g1,<-hf,<-HD.out.1,<-r1.out]at g4;simpa using g4:_/\_/\_/\_)
     have n9:au (m+1+nb<=4000):=(by have h:=jo List.length k1.out.1;have h2:=k1.out.2.2.2;rw[aK,dF,aK,tV]at h;omega:_<=_)
     clear hf;go_wp2_with fail
     refine aU n8.out ?_;rintro e w6 ⟨rfl,a0⟩;have a0:=a0.symm;subst a0;go_wp2_with fail
     refine aU (k0.out _) ?_;rintro e w6 ⟨rfl,a0⟩;have a0:=a0.symm;subst a0
     go_wp2_with (first
      |(at_builtin;refine pK rfl _ _ rfl w2.heap.size _ m (kF L) (f:Int) g0.out rfl rfl (by omega) h9 ?_;intro v' w6 a hg O;obtain⟨g6,c6,rfl⟩:=lI.jB a))
     have b8:au (aA w2.heap.size w2 w6):=(lI.mW g5.out (ah _) h9 g0.out hg:aA _ _ _);have b9:au (w6.ownsRow w2.heap.size 5 1 (.slice (some ⟨g6,0,none⟩) (m+1) c6) (m+1) (kF (L++[f]))):=(by rw[mZ];exact a:World.ownsRow _ _ _ _ _ _ _);have a5:au _:=zh _ d7.out j9.out hg;have V:au _:=zh _ j8.out j4.out hg;have a6:au (w6.heap[s]?=some (.cells #[.int .i64 (o:Int),.int .i64 (B:Int),.int .i64 (r:Int),.int .i64 (b:Int)] 61 (0,0))):=((hg.block s (by simp;exact Nat.lt_succ_of_lt (ak d8.out)) (fun e=>iy g0.out d8.out (by decide) e.symm)).trans ((alloc_old (ak d8.out)).trans d8.out):_=_);have X:au (g6≠U/\g6≠Z):=(by
      have h1:=(d7.out.lt U rfl).2;have h2:=(j8.out.lt Z rfl).2;refine⟨fun e=> ?_,fun e=> ?_⟩
      ·rcases O g6 rfl with h|h
       ·exact j9.out (by rw[<-e];exact h)
       ·omega
      ·rcases O g6 rfl with h|h
       ·exact j4.out (by rw[<-e];exact h)
       ·omega:_/\_)
     clear a hg O d7 j8 g0 g5 d8 j9 j4 n8 k0;go_wp2_with fail
     go_loopw [6,15] (fun ov jv wr=> ∃(j C g z:Nat) (L3:List Nat),ov= .slice (some ⟨g,0,none⟩) C z/\jv= .int .i64 (j:Int)/\j<=nb/\C<=4000/\au (L3=L++f::Ak f d (R k) (if k=0 then []else R (k-1)) j/\C=m+1+j)/\au (wr.ownsRow w2.heap.size 5 1 (.slice (some ⟨g,0,none⟩) C z) C (kF L3))/\au (wr.ownsRow w2.heap.size 5 1 (.slice (some ⟨U,0,none⟩) nb ca) nb (kF A))/\au (wr.ownsRow w2.heap.size 5 1 (.slice (some ⟨Z,0,none⟩) nb cr) nb (kF (R k)))/\au (aA w2.heap.size w2 wr)/\au (wr.heap[s]?=some (.cells #[.int .i64 (o:Int),.int .i64 (B:Int),.int .i64 (r:Int),.int .i64 (b:Int)] 61 (0,0)))/\au (g≠U/\g≠Z)) (fun _ jv _=>nb-(bH jv).toNat)
     case atStart=>exact⟨0,m+1,g6,c6,L++[f],by go_num,rfl,aX _,by have:=n9.out;omega,(⟨rfl,rfl⟩:_/\_),b9,a5,V,b8,a6,X⟩
     case round=>
      clear b9 a5 V b8 a6 X;obtain⟨j,C,g,c5,L3,rfl,rfl,hj,s7,h5,b9,a5,V,b8,a6,X⟩:=hrel;by_cases o0:j<nb;rotate_left
      ·have s8:¬((j:Int)<(nb:Int)):=by omega
       have z3:wr.cell? ⟨s,3,none⟩=some (.int .i64 (b:Int)):=by simpa using(cell_of a6.out 3).1
       have s9:au (cc+1=c+(k+1)/\y+b=r+(k+1)*b/\C=L3.length/\L3++(uX (p.D*n) N R (fun y=>FF (c+y)) (M-(k+1)) (k+1)++RP)=Y):=(by
        obtain⟨g1,g2,g3,g4⟩:=k1.out;obtain⟨l1,l2⟩:=h5.out;have t0:j=nb:=by omega
        refine⟨g3,g2,?_,?_⟩
        ·rw[l2,l1,aK,dF,tV];omega
        ·rw[<-g1,l1,t0];simp:_/\_/\_/\_)
       have t1:au (Jn wr w2.heap.size nb (k+1) (.slice (some ⟨g,0,none⟩) C c5) (.slice (some ⟨Z,0,none⟩) nb cr) (R (k+1-1))):=(.inr ⟨by omega,Z,cr,rfl,V.out,fun e=>X.out.2 (by simpa [Value.ownBlock]using e)⟩:Jn _ _ _ _ _ _ _);have t2:au (cc+1<=C):=(by have:=h5.out.2;omega:_<=_);go_wp2_with fail
       go_roundw
       case rel=>exact⟨k+1,C,cc+1,y+b,L3,some ⟨g,0,none⟩,c5,rfl,by go_num,by go_num,by omega,t2.out,s7,by omega,s9,t1,b9,b8,a6⟩
       case measure=>simp[bH];omega
      have s8:(j:Int)<(nb:Int):=by omega
      have kr:=Eg V.out j o0;have ka:=Eg a5.out j o0;have k2:=oq (m5.out k).2;have t3:=k2 j;have k3:=(f8.out j).2;obtain⟨lN,h6⟩:∃lN,lN=if d<=j then(R k).getD (j-d) 0 else 0:=⟨_,rfl⟩
      obtain⟨cN,h7⟩:∃cN,cN=if d<=j then A.getD (j-d) 0 else 0:=⟨_,rfl⟩
      have d9:lN<=255:=by rw[h6];split<;>first|exact k2 _|omega
      have e0:cN<=255:=by rw[h7];split<;>first|exact(f8.out _).2|omega
      obtain⟨rj,e4⟩:∃rj,rj=(R k).getD j 0:=⟨_,rfl⟩;obtain⟨aj,e5⟩:∃aj,aj=A.getD j 0:=⟨_,rfl⟩;rw[<-e4]at kr t3;rw[<-e5]at ka k3;obtain⟨gn,h8⟩:∃gn,gn=gI.iD f lN aj cN:=⟨_,rfl⟩;have o4:gn<=255:=by rw[h8];exact gI.qx _ _ _ _ d9 k3 e0
      obtain⟨zz,o1⟩:∃zz,zz=(rj+256-gn)%256:=⟨_,rfl⟩;have t4:au (Ak f d (R k) (if k=0 then []else R (k-1)) (j+1)=Ak f d (R k) (if k=0 then []else R (k-1)) j++[zz]):=(by
       rw[VQ,o1,h8,e4,e5,h6,h7,(f8.out j).1];unfold Rn;by_cases u:d<=j
       ·rw[aG u,aG u,(f8.out (j-d)).1,aG u]
       ·rw[ax u,ax u,ax u]:_=_)
      have v9:((rj:Int)-(gn:Int))%256=(zz:Int):=by omega
      have w5:IntKind.u8.wrap ((rj:Int)-(gn:Int))=(zz:Int):=by rw[IntKind.wrap_u8];omega
      have t5:au (∀wx:af,aH prog 25 #[.int .i64 (f:Int),.int .i64 (lN:Int),.int .i64 (aj:Int),.int .i64 (cN:Int)] wx fun e w'=>e= .returned (.int .i64 (gn:Int))/\w'=wx):=(fun wx=>by rw[h8];exact KZ f lN aj cN wx s6 d9 k3 e0:∀wx,_);have o2:au (lN=(if d<=j then(R k).getD (j-d) 0 else 0)/\cN=(if d<=j then A.getD (j-d) 0 else 0)):=(⟨h6,h7⟩:_/\_);clear o1 h8 e4 e5 h6 h7 k2;go_upto_if 82 with fail
      go_cut [16,17]from 74 to 115 (fun lv cv wx=>lv= .int .i64 (lN:Int)/\cv= .int .i64 (cN:Int)/\wx=wr)
      case first=>
       by_cases u:d<=j
       ·obtain⟨e,he⟩:∃e,j=d+e:=⟨j-d,by omega⟩;have t6:(d:Int)<=(j:Int):=by omega
        have y7:(j:Int)-(d:Int)=(e:Int):=by omega
        have t7:=Eg V.out e (by omega);have t8:=Eg a5.out e (by omega);have h1:=o2.out;rw[aG u,aG u,show j-d=e by omega]at h1;rw[<-h1.1]at t7;rw[<-h1.2]at t8;have y8:e<nb:=by omega
        clear h1 he;go_wp2_with fail
        go_meet
        case rel=>exact⟨by go_num,by go_num,rfl⟩
       ·have t6:¬((d:Int)<=(j:Int)):=by omega
        have h1:=o2.out;rw[ax u,ax u]at h1;obtain⟨rfl,rfl⟩:=h1;go_wp2_with fail
        go_meet
        case rel=>exact⟨rfl,rfl,rfl⟩
      case rest=>
       obtain⟨rfl,rfl,d3⟩:=hcut;have d3:=d3.symm;subst d3;go_upto_region 30 with fail
       refine Qt.zy (v:= .slice (some ⟨g,0,none⟩) C c5) 17 (by kernel_rfl) (by kernel_rfl) (fun _ _ _ h=>h) (.inl ⟨by rfl,fun w=>by go_simp⟩) ?_;simp only[List.take_succ_cons,List.take_zero,List.drop_succ_cons,List.drop_zero,Act.put,List.setIfInBounds_toArray,List.set_cons_zero,List.set_cons_succ];repeat (go_big_quiet_step ((go_at_call 25;exact iP (t5.out _))))
       refine wpQuiet_nil ?_;intro _ O;obtain⟨nq,o3⟩:=O;subst o3;have e6:au (aA w2.heap.size w2 (wr.drewN nq)):=(lI.lJ b8.out:aA _ _ _);have c7:au ((wr.drewN nq).ownsRow w2.heap.size 5 1 (.slice (some ⟨g,0,none⟩) C c5) C (kF L3)):=(b9.out:World.ownsRow _ _ _ _ _ _ _);have e7:au ((wr.drewN nq).ownsRow w2.heap.size 5 1 (.slice (some ⟨U,0,none⟩) nb ca) nb (kF A)):=(a5.out:World.ownsRow _ _ _ _ _ _ _);have e9:au ((wr.drewN nq).ownsRow w2.heap.size 5 1 (.slice (some ⟨Z,0,none⟩) nb cr) nb (kF (R k))):=(V.out:World.ownsRow _ _ _ _ _ _ _);have a7:au ((wr.drewN nq).heap[s]?=some (.cells #[.int .i64 (o:Int),.int .i64 (B:Int),.int .i64 (r:Int),.int .i64 (b:Int)] 61 (0,0))):=(a6.out:_=_);clear b8 b9 a5 V a6 kr ka;revert e6 c7 e7 e9 a7;generalize wr.drewN nq=w8;intro e6 c7 e7 e9 a7;have i0:=e6.out.size
       go_wp2_with (first
        |(at_builtin;refine pK rfl _ _ rfl w2.heap.size _ C (kF L3) (zz:Int) c7.out rfl rfl (by omega) i0 ?_;intro v' w9 a hg O;obtain⟨g9,c9,rfl⟩:=lI.jB a))
       have t9:au (aA w2.heap.size w2 w9):=(lI.mW e6.out (ah _) i0 c7.out hg:aA _ _ _);have u0:au (w9.ownsRow w2.heap.size 5 1 (.slice (some ⟨g9,0,none⟩) (C+1) c9) (C+1) (kF (L3++[zz]))):=(by rw[mZ];exact a:World.ownsRow _ _ _ _ _ _ _);have u1:au _:=zh _ e7.out (ov:= .slice (some ⟨g,0,none⟩) C c5) (fun e=>X.out.1 (by simpa [Value.ownBlock]using e)) hg;have u2:au _:=zh _ e9.out (ov:= .slice (some ⟨g,0,none⟩) C c5) (fun e=>X.out.2 (by simpa [Value.ownBlock]using e)) hg;have u3:au (w9.heap[s]?=some (.cells #[.int .i64 (o:Int),.int .i64 (B:Int),.int .i64 (r:Int),.int .i64 (b:Int)] 61 (0,0))):=((hg.block s (by simp;exact Nat.lt_succ_of_lt (ak a7.out)) (fun e=>iy c7.out a7.out (by decide) e.symm)).trans ((alloc_old (ak a7.out)).trans a7.out):_=_);have u4:au (g9≠U/\g9≠Z):=(by
        have h1:=(World.ownsRow.lt e7.out U rfl).2;have h2:=(World.ownsRow.lt e9.out Z rfl).2;refine⟨fun e=> ?_,fun e=> ?_⟩
        ·rcases O g9 rfl with h|h
         ·exact X.out.1 (by rw[<-e];simpa [Value.ownBlock]using h)
         ·omega
        ·rcases O g9 rfl with h|h
         ·exact X.out.2 (by rw[<-e];simpa [Value.ownBlock]using h)
         ·omega:_/\_)
       have u5:au (L3++[zz]=L++f::Ak f d (R k) (if k=0 then []else R (k-1)) (j+1)/\C+1=m+1+(j+1)):=(by obtain⟨l1,l2⟩:=h5.out;refine⟨?_,by omega⟩;rw[t4.out,l1];simp:_/\_)
       have u6:au (C+1<=4000):=(by have:=h5.out.2;have:=n9.out;omega:_<=_);clear a hg O e6 c7 e7 e9 a7;go_wp2_with fail
       go_roundw
       case rel=>exact⟨j+1,C+1,g9,c9,L3++[zz],by go_num,by go_num,by omega,u6.out,u5,u0,u1,u2,t9,u3,u4⟩
       case measure=>simp[bH];omega
end Kp
namespace Kp
open Go.RowKit Rf Cr
open Pr
theorem RN{w:af}{base:Nat}(s:ByteArray)(hb:base<=w.heap.size):(w.alloc (.cells #[.string s] 9)).ownsRow base 9 1 (.slice (some ⟨w.heap.size,0,none⟩) 1 1) 1 [.string s]:=
 ⟨rfl,.inr ⟨w.heap.size,1,#[.string s],rfl,hb,aP w _,ah _,by decide,rfl,rfl⟩⟩
theorem OH{wr:af}{ops:Array Oper}{rest:List Oper}{o:Oper}{a:Act}{Q:Exit->Act->af->Prop}(d:o.guard=none)(s x:Operand)
 (p:o.op= .call {callee:= .builtin .append,args:= #[s,x],argTypes:= #[28,28]}) (base:Nat) (v:ay) (n:Nat) (xs:List ay) (q g m c:Nat) (L:List ByteArray)
 (b:wr.ownsRow base 9 1 v n xs) (h2:wr.ownsRow q 9 1 (.slice (some ⟨g,0,none⟩) m c) m (nJ L)) (r:a.eval s=v) (t:a.eval x= .slice (some ⟨g,0,none⟩) m c) (C:n+m<=1000) (hb:base<=wr.heap.size)
 (h:∀v' w',w'.ownsRow base 9 1 v' (n+m) (xs++nJ L)->wr.grownBy w' v.ownBlock->wpList prog ops Q rest (a.put o.dst v') w'):
 wpList prog ops Q (o::rest) a wr:=by
 obtain⟨w,hi,e,f,i⟩:=info_parts TK;refine wpList_append_own _ d s x 28 p base 9 w (.string ⟨#[]⟩) 1 16 underlying28 hi e f i rfl (by decide) v n xs r b ⟨g,0,none⟩ m c (nJ L) t ?_ ?_ ?_ ?_ ?_ ?_ ?_
 ·exact h2.1
 ·intro j u k;have D:=h2.1;have y:j<(nJ L).length:=by
   rcases bW j (nJ L).length with l|l
   ·exact l
   ·rw[dD l]at k;cases k
  have:=h2.cellAt j (by omega);rw[<-k,<-this];unfold Addr.add;split
  ·rename_i h0;rw[h0]
  ·simp
 ·intro u hu;obtain⟨z,_,rfl⟩:=List.mem_map.1 hu;rfl
 ·unfold maxLen;omega
 ·omega
 ·exact hb
 ·intro v' w' A B E;exact h v' w' A B
def kC(p:Wk)(ds:List (List UInt8)):List ByteArray:=⟨(zN++qV tX (mg p.W p.H p.D p.K (if p.I=true then 1 else 0))).toArray⟩::((if p.oz=[]then []else [⟨p.oz.toArray⟩])++(ds.map Dh++[⟨(qV rE []).toArray⟩]))
theorem BJ(p:Wk)(ds:List (List UInt8)):tZ (kC p ds)=p.text ds:=by
 unfold kC Wk.text;rw[tZ,BI,BI];have a:tZ (if p.oz=[]then []else [(⟨p.oz.toArray⟩:ByteArray)])=p.oz:=by
  by_cases h:p.oz=[]
  ·rw[aG h,h];rfl
  ·rw[ax h];simp[tZ]
 have b:tZ (ds.map Dh)=nP ds:=by
  clear a;induction ds with
  |nil=>rfl
  |cons d ds c=>rw[List.map_cons,tZ,c,nP];simp[Dh]
 rw[a,b];simp[tZ]
theorem RQ(p:Wk)(hp:p.Ok)(b5:∀e∈p.E,e<16777216)(j5:p.E.length<=256)(F:Nat->Nat)(a b c z:Int)(T:Bool)(ev sv fv pv:ay)(P:List Int)(w:af)(h1:uu ev)(h2:uu sv)(h3:uu fv)(hP:gq w w.heap.size pv P)(hT:Ci w)(f0:4<w.heap.size)(j6: -9223372036854775808<=z)(j7:z<=9223372036854775807)
 (f1:∀wx,aA w.heap.size w wx->aH prog 4 #[yz a b c p.I ev T sv fv pv z] wx fun e w'=> ∃v,e= .returned v/\iJ p w' v/\aA wx.heap.size wx w')
 (f2:∀wx v,aA w.heap.size w wx->iJ p wx v->aH prog 13 #[v,fv] wx fun e w'=>e= .returned (.string ⟨(p.kJ F).toArray⟩)/\aA wx.heap.size wx w'):
 aH prog 5 #[yz a b c p.I ev T sv fv pv z] w fun e w'=> ∃v k,e= .returned (.tuple #[v,.int .i64 ((k:Nat):Int)])/\w'.ownsRow w.heap.size 9 1 v (kC p (mO (P.take 20) (nR (1+(pk z 60000).toNat) (p.kJ F)))).length (nJ (kC p (mO (P.take 20) (nR (1+(pk z 60000).toNat) (p.kJ F)))))/\k=1+(if p.oz=[]then 0 else 1)/\aA w.heap.size w w':=by
 obtain⟨a1,n1,c1,rfl⟩:=h1;obtain⟨a2,n2,c2,rfl⟩:=h2;obtain⟨a3,n3,c3,rfl⟩:=h3;obtain⟨a4,c4,j8,_⟩:∃la cap,pv= .slice la P.length cap/\True:=by obtain⟨la,cap,e,_⟩:=id hP;exact⟨la,cap,e,trivial⟩
 subst j8;have j9:au _:=f1;have k0:au _:=f2;have k1:au _:=hP;have b8:au (Ci w/\4<w.heap.size):=(⟨hT,f0⟩:_/\_);have t:au _:=hp;have k2:au (∀e∈p.E,e<16777216):=(b5:∀e∈p.E,_);clear f1 f2 hP hT f0 hp b5;obtain⟨CT,b9⟩:∃CT,CT=kC p (mO (P.take 20) (nR (1+(pk z 60000).toNat) (p.kJ F))):=⟨_,rfl⟩;obtain⟨G,c5⟩:∃G:Nat,G=1+(if p.oz=[]then 0 else 1):=⟨_,rfl⟩;rw[<-b9,<-c5];have k3:au _:=b9;have b1:au _:=c5;clear b9 c5;unfold yz at*;go_enter func5,ntmps5
 go_upto_region 1 with fail
 have J:au _:=aP w (.cells #[.int .i64 a,.int .i64 b,.int .i64 c,.bool p.I,.slice a1 n1 c1,.bool T,.slice a2 n2 c2,.slice a3 n3 c3,.slice a4 P.length c4,.int .i64 z] 24);have L:au (aA w.heap.size w (w.alloc (.cells #[.int .i64 a,.int .i64 b,.int .i64 c,.bool p.I,.slice a1 n1 c1,.bool T,.slice a2 n2 c2,.slice a3 n3 c3,.slice a4 P.length c4,.int .i64 z] 24))):=((aV _ _).alloc (ah _) _:aA _ _ _);obtain⟨n,c6⟩:∃n,n=w.heap.size:=⟨_,rfl⟩;rw[show(⟨w.heap.size,0,none⟩:bG)=⟨n,0,none⟩by rw[c6]];rw[<-c6]at J;have c7:au _:=ak J.out;revert L J c7;generalize w.alloc _=w0;intro L J c7;have k4:au (∀wx,aA w0.heap.size w0 wx->wx.heap[n]?=some (.cells #[.int .i64 a,.int .i64 b,.int .i64 c,.bool p.I,.slice a1 n1 c1,.bool T,.slice a2 n2 c2,.slice a3 n3 c3,.slice a4 P.length c4,.int .i64 z] 24 (0,0))):=(fun wx hb=>(hb.block _ c7.out).trans J.out:∀wx,_);have f3:au (∀wx,aA w0.heap.size w0 wx->aA w.heap.size w wx):=(fun wx hb=>L.out.trans (hb.mono L.out.size):∀wx,_);have f4:au (∀wx,aA w0.heap.size w0 wx->wx.cell? ⟨n,7,none⟩=some (.slice a3 n3 c3)/\wx.cell? ⟨n,8,none⟩=some (.slice a4 P.length c4)/\wx.cell? ⟨n,9,none⟩=some (.int .i64 z)):=(fun wx hb=>by have h:=k4.out wx hb;exact⟨by simpa using(cell_of h 7).1,by simpa using(cell_of h 8).1,by simpa using(cell_of h 9).1⟩:∀wx,_)
 have u0:w0.cell? ⟨n,0,none⟩=some (.int .i64 a):=by simpa using(cell_of J.out 0).1
 have u1:w0.cell? ⟨n,1,none⟩=some (.int .i64 b):=by simpa using(cell_of J.out 1).1
 have u2:w0.cell? ⟨n,2,none⟩=some (.int .i64 c):=by simpa using(cell_of J.out 2).1
 have u3:w0.cell? ⟨n,3,none⟩=some (.bool p.I):=by simpa using(cell_of J.out 3).1
 have u4:w0.cell? ⟨n,4,none⟩=some (.slice a1 n1 c1):=by simpa using(cell_of J.out 4).1
 have u5:w0.cell? ⟨n,5,none⟩=some (.bool T):=by simpa using(cell_of J.out 5).1
 have u6:w0.cell? ⟨n,6,none⟩=some (.slice a2 n2 c2):=by simpa using(cell_of J.out 6).1
 obtain⟨u7,u8,u9⟩:=f4.out w0 (aV _ _);clear c6;go_wp2_with fail
 refine aU (j9.out w0 L.out) ?_;rintro e w1 ⟨v,rfl,⟨ev,cv,sv,rfl,g1,g2,g3,g4⟩,f5⟩;obtain⟨M,N,e3,rfl⟩:=g1.sl;obtain⟨O,U,V,rfl⟩:=g2.sl;obtain⟨X,Y,e9,rfl⟩:=g3.sl;have k5:au _:=g4;clear g4;have HG:au (ji w1 w1.heap.size (.slice M N e3) p.E/\ji w1 w1.heap.size (.slice O U V) p.C/\ji w1 w1.heap.size (.slice X Y e9) p.S):=(⟨g1,g2,g3⟩:_/\_/\_);have f6:au _:=f5;clear g1 g2 g3 f5 u0 u1 u2 u3 u4 u5 u6 u7 u8 u9;unfold pW;go_upto_region 2 with fail
 have HY:au _:=aP w1 (oC p.W p.H p.K p.D p.I (.slice M N e3) (.slice O U V) (.slice X Y e9));have u:aA w1.heap.size w1 (w1.alloc (oC p.W p.H p.K p.D p.I (.slice M N e3) (.slice O U V) (.slice X Y e9))):=(aV w1.heap.size w1).alloc (ah _) _;have o:au (aA w0.heap.size w0 (w1.alloc (oC p.W p.H p.K p.D p.I (.slice M N e3) (.slice O U V) (.slice X Y e9)))):=(f6.out.trans (u.mono f6.out.size):aA _ _ _);have a0:au (iJ p (w1.alloc (oC p.W p.H p.K p.D p.I (.slice M N e3) (.slice O U V) (.slice X Y e9))) (pW p.W p.H p.K p.D p.I (.slice M N e3) (.slice O U V) (.slice X Y e9))):=(⟨_,_,_,rfl,HG.out.1.up u,HG.out.2.1.up u,HG.out.2.2.up u,k5.out⟩:iJ _ _ _);obtain⟨j,f7⟩:∃j,j=w1.heap.size:=⟨_,rfl⟩
 rw[<-f7]at HY|-;unfold oC at HY o a0 u;clear u f7 HG;revert HY o a0;generalize w1.alloc _=w2;intro o a0 HY;have f8:au _:=ak HY.out;have a5:au (∀wx,aA w2.heap.size w2 wx->(wx.cell? ⟨j,0,none⟩=some (.int .i64 (p.W:Int))/\wx.cell? ⟨j,1,none⟩=some (.int .i64 (p.H:Int))/\wx.cell? ⟨j,2,none⟩=some (.int .i64 (p.K:Int))/\wx.cell? ⟨j,3,none⟩=some (.int .i64 (p.D:Int))/\wx.cell? ⟨j,4,none⟩=some (.bool p.I)/\wx.cell? ⟨j,5,none⟩=some (.slice M N e3)/\wx.cell? ⟨j,6,none⟩=some (.slice O U V)/\wx.cell? ⟨j,7,none⟩=some (.slice X Y e9))/\(wx.cell? ⟨n,7,none⟩=some (.slice a3 n3 c3)/\wx.cell? ⟨n,8,none⟩=some (.slice a4 P.length c4)/\wx.cell? ⟨n,9,none⟩=some (.int .i64 z))):=(fun wx hb=>by have h:=(hb.block _ f8.out).trans HY.out;exact⟨⟨by simpa using(cell_of h 0).1,by simpa using(cell_of h 1).1,by simpa using(cell_of h 2).1,by simpa using(cell_of h 3).1,by simpa using(cell_of h 4).1,by simpa using(cell_of h 5).1,by simpa using(cell_of h 6).1,by simpa using(cell_of h 7).1⟩,f4.out wx (o.out.trans (hb.mono o.out.size))⟩:∀wx,_)
 have a6:au (∀wx,aA w2.heap.size w2 wx->aA w.heap.size w wx):=(fun wx hb=>f3.out wx (o.out.trans (hb.mono o.out.size)):∀wx,_);have k6:au (∀wx,aA w2.heap.size w2 wx->iJ p wx (pW p.W p.H p.K p.D p.I (.slice M N e3) (.slice O U V) (.slice X Y e9))):=(fun wx hb=>a0.out.up hb:∀wx,_);obtain⟨⟨v0,v1,v2,v3,v4,v5,v6,v7⟩,v8,v9,v10⟩:=a5.out w2 (aV _ _);have c8:au _:=k0.out w2 _ (a6.out w2 (aV _ _)) a0.out;unfold pW at c8;go_wp2_with fail
 refine aU c8.out ?_;rintro e w3 ⟨rfl,f9⟩;have d0:au _:=f9;clear f9 c8 v0 v1 v2 v3 v4 v5 v6 v7 v8 v9 v10;have g0:(p.kJ F).length<=4000:=by rw[Wk.CZ];exact t.out.zn F
 obtain⟨m,hm⟩:∃m:Nat,pk z 60000=(m:Int):=⟨(pk z 60000).toNat,by have:=rF z 60000 (by omega);omega⟩;have m8:m<60000:=by have:=rF z 60000 (by omega);omega
 have k7:au (∀w':af,aH prog 10 #[.int .i64 z,.int .i64 60000] w' fun e w2=>e= .returned (.int .i64 (m:Int))/\w2=w'):=(fun w'=>by rw[<-hm];exact BG _ _ w' j6 j7 (by omega) (by omega):∀w',_);have k8:au (1+(pk z 60000).toNat=1+m):=(by rw[hm];rfl:_=_);obtain⟨R,hR⟩:∃R:ByteArray,R=⟨(p.kJ F).toArray⟩:=⟨_,rfl⟩;have m9:R.size<=4000:=by rw[hR,fF];exact g0
 obtain⟨S,hS⟩:∃S:ByteArray,S=⟨(kQ (1+m) R.size R.data.toList).toArray⟩:=⟨_,rfl⟩;have g5:R.data.toList=p.kJ F:=by rw[hR]
 have g6:R.size=(p.kJ F).length:=by rw[hR,fF]
 have n0:S.size<=30000:=by
  rw[hS,fF];have:=yY (1+m) R.size R.data.toList;have h2:R.data.toList.length=R.size:=by simp
  omega
 have k9:au (∀wx:af,aH prog 15 #[.string R,.int .i64 (1+(m:Int))] wx fun e w'=>e= .returned (.string S)/\aA wx.heap.size wx w'):=(fun wx=>by have:=Ib R (1+m) wx (by omega) (by omega) (by omega);rw[hS];rw[show((1+m:Nat):Int)=1+(m:Int)by omega]at this;exact this:∀wx,_)
 obtain⟨Q,hQ⟩:∃Q:ByteArray,Q=OA S R:=⟨_,rfl⟩;have l0:au (∀wx:af,aH prog 14 #[.string S,.string R] wx fun e w'=>e= .returned (.string Q)/\aA wx.heap.size wx w'):=(fun wx=>by rw[hQ];exact OB S R wx (by omega) (by omega):∀wx,_);have l1:au (Q.data.toList=nR (1+m) (p.kJ F)):=(by rw[hQ];unfold OA nR;rw[oK,oK,hS,g5,g6];simp:_=_)
 have n4:Q.size<=40000:=by rw[hQ];unfold OA;rw[gX,gX,fF];show 2+S.size+4<=40000;omega
 rw[<-hR];clear hm hR hS hQ g5 g6;obtain⟨⟨v0,v1,v2,v3,v4,v5,v6,v7⟩,v8,v9,v10⟩:=a5.out w3 d0.out;go_wp2_with (first|(go_at_call 10;refine aU (k7.out _) ?_;rintro e w9 ⟨rfl,l2⟩;subst l2))
 refine aU (k9.out _) ?_;rintro e w4 ⟨rfl,h4⟩;have h5:au (aA w2.heap.size w2 w4):=(d0.out.trans (h4.mono d0.out.size):aA _ _ _);clear h4 v0 v1 v2 v3 v4 v5 v6 v7 v8 v9 v10;go_wp2_with fail
 refine aU (l0.out _) ?_;rintro e w5 ⟨rfl,h6⟩;have a7:au (aA w2.heap.size w2 w5):=(h5.out.trans (h6.mono h5.out.size):aA _ _ _);clear h6;obtain⟨⟨v0,v1,v2,v3,v4,v5,v6,v7⟩,v8,v9,v10⟩:=a5.out w5 a7.out;have q:au (∀wx,aA w2.heap.size w2 wx->Ci wx/\4<wx.heap.size):=(fun wx hb=>⟨Dc b8.out.1 b8.out.2 (a6.out wx hb),aN b8.out.2 (a6.out wx hb).size⟩:∀wx,_);have b2:au _:=Rw p.W p.H p.K p.D p.I (.slice M N e3) (.slice O U V) (.slice X Y e9) w5 ⟨_,_,_,rfl⟩ ⟨_,_,_,rfl⟩ ⟨_,_,_,rfl⟩ (q.out w5 a7.out).1 (q.out w5 a7.out).2 t.out.w2 t.out.h2 t.out.small.2 t.out.small.1;obtain⟨hd,d1⟩:∃hd:ByteArray,hd=⟨(zN++qV tX (mg p.W p.H p.D p.K (if p.I=true then 1 else 0))).toArray⟩:=⟨_,rfl⟩;have l3:au _:=d1;rw[<-d1]at b2;clear d1;unfold pW at b2;go_wp2_with fail
 refine aU b2.out ?_;rintro e w6 ⟨rfl,h7⟩;have d2:au (aA w2.heap.size w2 w6):=(a7.out.trans (h7.mono a7.out.size):aA _ _ _);clear h7 b2 v0 v1 v2 v3 v4 v5 v6 v7 v8 v9 v10;go_upto_region 5 with fail
 have h8:w2.heap.size<=w6.heap.size:=d2.out.size;have b3:au _:=RN (w:=w6) (base:=w2.heap.size) hd h8;have r:au (aA w2.heap.size w2 (w6.alloc (.cells #[.string hd] 9))):=(d2.out.alloc d2.out.size _:aA _ _ _);obtain⟨o7,h9⟩:∃o7,o7=w6.heap.size:=⟨_,rfl⟩;rw[<-h9]at b3|-;clear h9 h8;revert b3 r;generalize w6.alloc _=w7;intro r b3;obtain⟨⟨v0,v1,v2,v3,v4,v5,v6,v7⟩,v8,v9,v10⟩:=a5.out w7 r.out;obtain⟨gE,gC,gS⟩:ji w7 w7.heap.size (.slice M N e3) p.E/\ji w7 w7.heap.size (.slice O U V) p.C/\ji w7 w7.heap.size (.slice X Y e9) p.S:=by
  obtain⟨x1,x2,x3,ex,y1,y2,y3,_⟩:=k6.out w7 r.out;unfold pW at ex;injection ex with ex
  simp at ex;obtain⟨rfl,rfl,rfl⟩:=ex;exact⟨y1,y2,y3⟩
 have b4:au _:=Ry p (.slice M N e3) (.slice O U V) (.slice X Y e9) w7 t.out gE gC ⟨_,_,_,rfl⟩ (q.out w7 r.out).1 (q.out w7 r.out).2 k2.out j5;clear gE gC gS;obtain⟨tb,d3⟩:∃tb:ByteArray,tb=⟨p.oz.toArray⟩:=⟨_,rfl⟩;have i0:au _:=d3;rw[<-d3]at b4;clear d3;unfold pW at b4;go_wp2_with fail
 refine aU b4.out ?_;rintro e w8 ⟨rfl,d4⟩;have d5:au (aA w2.heap.size w2 w8):=(r.out.trans (d4.mono r.out.size):aA _ _ _);have i1:au _:=jS b3.out d4;clear d4 b4 v0 v1 v2 v3 v4 v5 v6 v7 v8 v9 v10;go_upto_if 30 with fail
 obtain⟨B,hB⟩:∃B:Bool,B= !tb.toList.isEmpty:=⟨_,rfl⟩;rw[<-hB];have i2:au (B=false↔p.oz=[]):=(by
  rw[hB,dP,i0.out];cases h:p.oz with
  |nil=>simp
  |cons x l=>simp:_↔_)
 clear hB;go_cut [7]from 31 to 34 (fun v wx=> ∃(g cap:Nat),v= .slice (some ⟨g,0,none⟩) G cap/\au (wx.ownsRow w2.heap.size 9 1 (.slice (some ⟨g,0,none⟩) G cap) G (nJ (hd::(if p.oz=[]then []else [tb]))))/\au (aA w2.heap.size w2 wx))
 case first=>
  cases B with
  |false=>
   have f:p.oz=[]:=i2.out.1 rfl;have hk:G=1:=by rw[b1.out,aG f]
   have l4:au (w8.ownsRow w2.heap.size 9 1 (.slice (some ⟨o7,0,none⟩) 1 1) 1 (nJ (hd::(if p.oz=[]then []else [tb])))):=(by rw[aG f];exact i1.out:World.ownsRow _ _ _ _ _ _ _);clear f;have a8:au _:=hk;clear hk;go_wp2_with fail
   go_meet
   case rel=>exact⟨o7,1,by rw[a8.out],by rw[a8.out];exact l4,d5⟩
  |true=>
   have f:p.oz≠[]:=fun e=>Bool.noConfusion (i2.out.2 e);have hk:G=1+1:=by rw[b1.out,ax f]
   have i3:w2.heap.size<=w8.heap.size:=d5.out.size;have l5:au (nJ (hd::(if p.oz=[]then []else [tb]))=[.string hd]++[.string tb]):=(by rw[ax f];rfl:_=_);have i4:au (w8.ownsRow w2.heap.size 9 1 (.slice (some ⟨o7,0,none⟩) 1 1) 1 [.string hd]):=(i1.out:World.ownsRow _ _ _ _ _ _ _);clear f;have a8:au _:=hk;clear hk
   go_wp2_with (first
    |(at_builtin;refine t_ rfl _ _ rfl w2.heap.size _ 1 [.string hd] tb i4.out rfl rfl (by omega) i3 ?_;intro v' l6 d hg;obtain⟨l7,l8,rfl⟩:=lI.jB d))
   have l9:au (aA w2.heap.size w2 l6):=(lI.mW d5.out (ah _) i3 i4.out hg:aA _ _ _);have m0:au _:=d;clear d hg;go_wp2_with fail
   go_meet
   case rel=>exact⟨l7,l8,by rw[a8.out],by rw[a8.out,l5.out];exact m0,l9⟩
 case rest=>
  obtain⟨g9,c9,rfl,m1,y⟩:=hcut;have m7:G<=2:=by rw[b1.out];split<;>omega
  obtain⟨⟨v0,v1,v2,v3,v4,v5,v6,v7⟩,v8,v9,v10⟩:=a5.out wc y.out;obtain⟨A,a9⟩:∃A,A=mO (P.take 20) Q.data.toList:=⟨_,rfl⟩;have n5:A.length<=21:=by
   rw[a9];have:∀(l:List Int) (s:List UInt8),(mO l s).length=l.length+1:=fun l=>by
    induction l with
    |nil=>intro s;rfl
    |cons x l ih=>intro s;rw[mO,dF,ih,dF]
   rw[this,eH];omega
  have i5:au (1<=A.length):=(by rw[a9];exact List.length_pos_iff.2 (OC _ _):_<=_);have i6:au (aH prog 18 #[.string Q,.slice a4 P.length c4] wc fun e w'=> ∃v,e= .returned v/\w'.ownsRow wc.heap.size 9 1 v A.length (nJ (A.map Dh))/\aA wc.heap.size wc w'):=(by rw[a9];refine RD Q _ P wc ?_ (by omega) (q.out wc y.out).1 (q.out wc y.out).2;have i7:=a6.out wc y.out;obtain⟨la,cap,e,q1,q2⟩:=gq.over (show gq w w.heap.size (.slice a4 P.length c4) P from k1.out) (fun k hk=>i7.block k hk);refine⟨la,cap,e,q1,fun i hi=> ?_⟩;obtain⟨x,r1,r2,r3⟩:=q2 i hi;exact⟨x,r1,aN r2 i7.size,r3⟩:aH _ _ _ _ _)
  have m2:au _:=a9;clear a9;go_wp2_with fail
  refine aU i6.out ?_;rintro e wa ⟨vv,rfl,ho,d6⟩;obtain⟨ga,ca,rfl⟩:∃ga ca,vv= .slice (some ⟨ga,0,none⟩) A.length ca:=by
   rcases ho.2 with⟨_,h0⟩|⟨g,cp,_,e,_⟩
   ·have:=i5.out;omega
   ·exact⟨g,cp,e⟩
  have d7:au (aA w2.heap.size w2 wa):=(y.out.trans (d6.mono y.out.size):aA _ _ _);have d8:au _:=jS m1.out d6;have i9:au _:=ho;have d9:w2.heap.size<=wa.heap.size:=d7.out.size;clear ho d6 i6 v0 v1 v2 v3 v4 v5 v6 v7 v8 v9 v10
  go_wp2_with (first
   |(at_builtin;refine OH rfl _ _ rfl w2.heap.size _ G _ wc.heap.size ga A.length ca (A.map Dh) d8.out i9.out rfl rfl (by omega) d9 ?_;intro v' wb d hg;obtain⟨gb,cb,rfl⟩:=y_ d (by have:=i5.out;omega)))
  have b0:au (aA w2.heap.size w2 wb):=(d7.out.grown hg d9 (fun k hk=>(World.ownsRow.lt d8.out k hk).1):aA _ _ _);have j0:au _:=d;clear d hg d8 i9 d7 d9;have j1:au _:=vX ⟨#[73,69,78,68]⟩ ⟨#[]⟩ wb (q.out wb b0.out).1 (q.out wb b0.out).2 rfl (by decide);obtain⟨Z,hZ⟩:∃Z:ByteArray,Z=⟨(qV rE []).toArray⟩:=⟨_,rfl⟩;have b6:au (aH prog 19 #[.string ⟨#[73,69,78,68]⟩,.string ⟨#[]⟩] wb fun e w'=>e= .returned (.string Z)/\aA wb.heap.size wb w'):=(by rw[hZ];exact j1.out:aH _ _ _ _ _);have m3:au _:=hZ;clear hZ j1;refine aU b6.out ?_;rintro e wd ⟨rfl,e0⟩;have j2:au (aA w2.heap.size w2 wd):=(b0.out.trans (e0.mono b0.out.size):aA _ _ _);have j3:au _:=jS j0.out e0;have j4:w2.heap.size<=wd.heap.size:=j2.out.size;clear e0 j0 b0 b6
  go_wp2_with (first
   |(at_builtin;refine t_ rfl _ _ rfl w2.heap.size _ (G+A.length) _ Z j3.out rfl rfl (by omega) j4 ?_;intro v' we d hg;obtain⟨ge,ce,rfl⟩:=y_ d (by omega)))
  have m4:au (aA w2.heap.size w2 we):=(lI.mW j2.out (ah _) j4 j3.out hg:aA _ _ _);have b7:au (CT.length=G+A.length+1/\nJ CT=nJ (hd::(if p.oz=[]then []else [tb]))++nJ (A.map Dh)++[.string Z]):=(by
   rw[k3.out,k8.out,<-l1.out,<-m2.out];unfold kC;rw[<-l3.out,<-i0.out,<-m3.out,b1.out];by_cases f:p.oz=[]
   ·rw[aG f,aG f];simp[nJ];omega
   ·rw[ax f,ax f];simp[nJ];omega:_/\_)
  have m5:au (we.ownsRow w.heap.size 9 1 (.slice (some ⟨ge,0,none⟩) (G+A.length+1) ce) CT.length (nJ CT)):=(by rw[b7.out.1,b7.out.2];exact yA d (f3.out w2 o.out).size:World.ownsRow _ _ _ _ _ _ _)
  have m6:au (aA w.heap.size w we):=(a6.out we m4.out:aA _ _ _);clear d hg;go_wp2_with fail
  go_ret2;exact⟨_,_,rfl,m5.out,rfl,m6.out⟩
theorem aaq{w:af}{base n:Nat}{v:ay}{L:List ByteArray}(h:w.ownsRow base 9 1 v n (nJ L)):TJ w v L:=by
 have a:=h.1;rw[aai,Nat.mul_one]at a;subst a;rcases h.2 with⟨e,h0⟩|⟨g,cap,cur,e,_⟩
 ·exact⟨none,0,by rw[e,h0],fun i hi=>by omega⟩
 ·refine⟨some ⟨g,0,none⟩,cap,e,fun i hi=>⟨_,rfl,?_⟩⟩;subst e;have b:=h.cellAt i (by rw[Nat.mul_one];exact hi);have c:(⟨g,0,none⟩:bG).add i=⟨g,i,none⟩:=by
   unfold Addr.add;split
   ·rename_i h0;rw[h0]
   ·simp
  rw[c];refine b.trans ?_;simp[nJ,hi,List.getD_eq_getElem?_getD]
structure BK(b:ByteArray)(W H:Nat)(dQ:List Nat):Prop where
 ok:∀l:Int,((W*H:Nat):Int)<=l->l<=1048576->CY b l ⟨0,W,H,dQ⟩
 zn:∀l:Int,1<=l->l<((W*H:Nat):Int)->CY b l ⟨2,0,0,[]⟩
theorem Wk.Ok.all{p:Wk}(h:p.Ok)(F:Nat->Nat)(hF:∀y,F y<=4)(size:Nat)(c:1<=size)(d:size<=65535)(ds:List (List UInt8))(e:ds≠[])(g:ds.flatten=nR size (p.kJ F)):BK ⟨(p.text ds).toArray⟩ p.W p.H (pU p.q (p.W*p.H)):=by
 obtain⟨hH,P1,st,t,P2,f,j,k,m⟩:=h.seen F hF size c d ds e g;have h1:p.W*p.H<=20*20:=bD h.w2 h.h2;have h2:1*1<=p.W*p.H:=bD h.w1 h.h1;refine⟨fun l i a=> ?_,fun l i a=> ?_⟩
 ·have:=CY.ok (b:=⟨(p.text ds).toArray⟩) (limit:=l) (by omega) a j (by rw[hH.w,hH.h];exact i) k;rw[hH.w,hH.h,m]at this;exact this
 ·exact CY.large i (by omega) hH.h0 (by rw[hH.w,hH.h];exact a)
end Kp
end Go.Proofs.YtephkcdbnogdhabGreatDoor
