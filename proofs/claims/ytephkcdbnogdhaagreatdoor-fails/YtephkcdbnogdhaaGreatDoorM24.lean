import Derived.Test.YtephkcdbnogdhaaGreatDoorM22
set_option linter.unusedVariables false
set_option maxHeartbeats 40000000
set_option maxRecDepth 10000
namespace Go.Proofs.YtephkcdbnogdhaaGreatDoor
open Go.Proofs.Tryz
open Go renaming World->af,Value->ay,Calls->aF,TypeId->aY
open Go.RowKit renaming Hid->ah,intOf->aX
namespace Pr
open Go.RowKit Rf
def rE(tb:Src)(rb:Nat)(s:ByteArray)(cs:List (Nat×List UInt8))(pos:Nat)(b:Nat->Nat×Nat×Nat)(w:af)(m:Nat×Nat×Nat)(v:ay)(w':af):Prop:=
 (∃y p,cu s cs ⟨pos,false⟩=(y,⟨p,false⟩)/\m=b y/\v= .nilIface/\Rd w' tb rb s p/\RF tb rb w w')\/
 (m=(0,0,0)/\(∃T a,v= .iface T (.pointer (some a))/\dO tb w' T a ((cu s cs ⟨pos,false⟩).2.dA=true))/\qc w' tb rb s/\RF tb rb w w')
theorem rE.rf{tb:Src}{rb:Nat}{s:ByteArray}{cs:List (Nat×List UInt8)}{pos:Nat}{a:Nat->Nat×Nat×Nat}{w w':af}{m:Nat×Nat×Nat}{v:ay}(h:rE tb rb s cs pos a w m v w'):RF tb rb w w':=by
 rcases h with⟨y,p,_,_,_,_,h⟩|⟨_,_,_,h⟩
 ·exact h
 ·exact h
theorem rE.from{tb:Src}{rb:Nat}{s:ByteArray}{cs:List (Nat×List UInt8)}{pos:Nat}{a:Nat->Nat×Nat×Nat}{w0 w w':af}{m:Nat×Nat×Nat}{v:ay}(e:RF tb rb w0 w)(h:rE tb rb s cs pos a w m v w'):rE tb rb s cs pos a w0 m v w':=by
 rcases h with⟨y,p,b,c,h3,d,f⟩|⟨b,c,h3,d⟩
 ·exact .inl ⟨y,p,b,c,h3,d,e.trans f⟩
 ·exact .inr ⟨b,c,h3,e.trans d⟩
theorem rE.alloc{tb:Src}{rb:Nat}{s:ByteArray}{cs:List (Nat×List UInt8)}{pos:Nat}{b:Nat->Nat×Nat×Nat}{w w':af}{m:Nat×Nat×Nat}{v:ay}(h:rE tb rb s cs pos b w m v w')(o:Obj):rE tb rb s cs pos b w m v (w'.alloc o):=by
 rcases h with⟨y,p,c,d,h3,e,g⟩|⟨c,⟨T,a,d,f⟩,h3,e⟩
 ·exact .inl ⟨y,p,c,d,h3,e.alloc o,g.alloc o⟩
 ·exact .inr ⟨c,⟨T,a,d,f.alloc o⟩,h3.alloc o,e.alloc o⟩
theorem rE.set{tb:Src}{rb:Nat}{s:ByteArray}{cs:List (Nat×List UInt8)}{pos:Nat}{c:Nat->Nat×Nat×Nat}{w w':af}{m:Nat×Nat×Nat}{v:ay}(h:rE tb rb s cs pos c w m v w'){b:Nat}(hb:w.heap.size<=b)(l:tb.base<=b)(n:¬tb.F b)(q:b≠rb)
 {cur:Array ay} {r:aY} {f:Nat×Nat} (e:w'.heap[b]?=some (.cells cur r f)) (t:r≠216) (o:Nat) (x:ay):rE tb rb s cs pos c w m v (w'.setCell ⟨b,o,none⟩ x):=by
 rcases h with⟨y,p,d,g,i,j,u⟩|⟨d,⟨T,a,g,k⟩,i,j⟩
 ·exact .inl ⟨y,p,d,g,i,j.eF b o x l n q,u.eF b o hb x⟩
 ·exact .inr ⟨d,⟨T,a,g,k.set e t o x⟩,i.eF b o x l n q,j.eF b o hb x⟩
theorem zS(k:Nat)(tb:Src)(rb:Nat)(L:List Nat)(s:ByteArray)(pos:Nat)(w:af)(b:Nat->Nat×Nat×Nat)(h:vF w k b L)(g:Rd w tb rb s pos)(hs:s.size<=140737488354000)(i:L.length<=400)(hx:∀x∈L,x<=15)(hK:kN L 16<=32768):
 aF prog 198 #[.pointer (some ⟨k,0,none⟩),.pointer (some ⟨rb,0,none⟩)] w fun e w'=> ∃(m:Nat×Nat×Nat) (v:ay),e= .returned (.tuple #[.agg #[.int .u8 (m.1:Int),.int .i64 (m.2.1:Int),.int .u64 (m.2.2:Int)],v])/\rE tb rb s (bJ L).cs pos b w m v w':=by
 refine(Xz k tb rb L s pos w b h g hs i hx hK).mono ?_;rintro e w' (⟨y,p,c,rfl,d,f⟩|⟨⟨T,a,rfl,c⟩,d,f⟩)
 ·exact⟨b y,_,rfl,.inl ⟨y,p,c,rfl,rfl,d,f⟩⟩
 ·exact⟨(0,0,0),_,rfl,.inr ⟨rfl,⟨T,a,rfl,c⟩,d,f⟩⟩
structure Fit(L:List Nat):Prop where
 len:L.length<=400
 le:∀x∈L,x<=15
 Di:kN L 16<=32768
 some:0<L.length
theorem Lp{tb:Src}{rb b:Nat}{W w3:af}(g:RF tb rb W w3)(a:W.heap[b]?=some (.cells #[.int .u8 0,.int .i64 0,.int .u64 0] 314 (0,0)))(c:¬tb.F b)(d:b≠rb):
 w3.heap[b]?=some (.cells #[.int .u8 0,.int .i64 0,.int .u64 0] 314 (0,0))/\w3.cell? ⟨b,0,none⟩=some (.int .u8 0)/\w3.cell? ⟨b,1,none⟩=some (.int .i64 0)/\w3.cell? ⟨b,2,none⟩=some (.int .u64 0)/\w3.frozen? ⟨b,0,none⟩=false/\w3.frozen? ⟨b,1,none⟩=false/\w3.frozen? ⟨b,2,none⟩=false:=by
 have h:=(g.block b (ai a) c d).trans a;exact⟨h,by simpa using(cell_of h 0).1,by simpa using(cell_of h 1).1,by simpa using(cell_of h 2).1,(cell_of h 0).2,(cell_of h 1).2,(cell_of h 2).2⟩
theorem Yi(S:jV)(A:sG)(s:ByteArray)(aN most kt y:Nat)(LA z:List Nat)(u:US)(w:af)(hP:wZ S A.base)(h:UP S w A s aN most u)(hT:mX w kt LA z)(hB:Fit z)(hs:s.size<=140737488354000)(hm:most<=16777216)(R:1<=aN)(U:aN<=32768)(B:257<=y)(C:y<=285):
 aF prog 200 #[.pointer (some ⟨A.ub,0,none⟩),.agg #[.int .u8 ((jF y).1:Int),.int .i64 ((jF y).2.1:Int),.int .u64 ((jF y).2.2:Int)],.pointer (some ⟨kt,0,none⟩)] w fun e w'=>Res S A s aN most w (kC s aN most (bJ z).cs y u) e w':=by
 have g:=h.facts.1;obtain⟨⟨pos,dA⟩,out⟩:=u;dsimp only at g;subst g;have O:=PL y B C;have e0:=LV y B C;obtain⟨V,K⟩:=h.alloc (KN (jF y));have W:=hT.iU (w':=w.alloc (KN (jF y))) (fun b hb=>alloc_old hb);have hM:rY (w.alloc (KN (jF y))) w.heap.size (jF y):=jY w _ _ rfl;have hlen:(jF y).2=ja y:=by rw[O]
 have P:(jF y).2.2<=16:=by rw[hlen];omega
 have a8:(jF y).2.1<=900000:=by rw[hlen];omega
 have HL:ah ((jF y).2=ja y):=hlen;have d4:1<=(jF y).2.1:=by rw[hlen];have:=VW y B C;omega
 have a9:(w.alloc (KN (jF y)))=w.alloc (.cells #[.int .u8 ((jF y).1:Int),.int .i64 ((jF y).2.1:Int),.int .u64 ((jF y).2.2:Int)] 314):=rfl;rw[a9]at V K W hM;clear O hlen a9;generalize jF y=lm at*;go_enter func200,ntmps200
 go_wp2_with fail
 generalize (w.alloc (.cells #[.int .u8 (lm.1:Int),.int .i64 (lm.2.1:Int),.int .u64 (lm.2.2:Int)] 314))=w0 at*;refine(Ih S A s aN most ⟨⟨pos,false⟩,out⟩ lm _ _ _ V (Yh S A s aN most hm) hs P a8 d4).mono ?_;rintro e w1 (⟨D,a2,k1,rfl,L,a4,a5⟩|⟨⟨n,T,a,rfl,D⟩,a2,L⟩);rotate_left
 ·have X:dO A.tb w1 T a (Stop S (kC s aN most (bJ z).cs y ⟨⟨pos,false⟩,out⟩)):=D.imp (fun D=> .inl (by
   by_cases hb:(bI s (ja y).2 ⟨pos,false⟩).2.dA=true
   ·exact Yd hb
   ·have Y:pos+(ja y).2<=8*s.size:=Nat.le_of_not_lt (fun hc=>hb (uN s _ pos h.facts.2.1.AU (by omega)));rcases D with D|D
    ·exact absurd (by rw[<-HL.out];exact D) hb
    ·refine Un (u:=⟨⟨pos,false⟩,out⟩) h.facts.2.2 ?_;have N:=jc s (ja y).2 pos Y;rw[N];rw[HL.out]at D;exact D))
  clear D;go_wp2_with fail
  go_ret;exact .inr ⟨⟨T,a,rfl,X⟩,a2,K.trans L⟩
 dsimp only at D a2 L;have b0:bH s pos lm.2.2<65536:=bu (fQ s pos _) (show 2^lm.2.2<=2^16 from b_ (by omega) P);have Q:ah (bI s (ja y).2 ⟨pos,false⟩=(bH s pos lm.2.2,⟨pos+lm.2.2,false⟩)):=(by rw[<-HL.out];exact jc s _ pos a2:_=_);have d5:=W.pe a4;have E:=K.trans a4;have HN:ah (lm.2.1+bH s pos lm.2.2=(ja y).1+(bI s (ja y).2 ⟨pos,false⟩).1):=(by rw[Q.out,<-HL.out]:_=_);have d6:1<=lm.2.1+bH s pos lm.2.2/\lm.2.1+bH s pos lm.2.2<=100000:=by have h3:3<=(ja y).1:=VW y B C;have h4:=gY Prod.fst HL.out;have:=LV y B C;omega
 obtain⟨l,M⟩:∃l,l=lm.2.1+bH s pos lm.2.2:=⟨_,rfl⟩;rw[<-M]at d6|-;have d7:ah (l=lm.2.1+bH s pos lm.2.2):=M;dsimp only at k1;rw[<-M]at k1;clear M V K W hM b0;obtain⟨c0,c1,c2,c3⟩:=L.cells;obtain⟨f1,f2,f3⟩:=L.facts;obtain⟨ka,kb,t1,t2,t3⟩:=d5;have b6:w1.cell? ⟨kt,1,none⟩=some (.pointer (some ⟨kb,0,none⟩)):=by simpa using(cell_of t1 1).1
 have o1:∀o:Obj,(w1.alloc o).cell? ⟨kt,1,none⟩=some (.pointer (some ⟨kb,0,none⟩)):=fun o=>Er.dm b6 o;have o2:∀o:Obj,(w1.alloc o).cell? ⟨A.ub,0,none⟩=some (.pointer (some ⟨A.rb,0,none⟩)):=fun o=>Er.dm c0 o;dsimp only at f2;obtain⟨Z,a0⟩:∃Z,Z=pos+lm.2.2:=⟨_,rfl⟩;rw[<-a0]at L f2;have x:ah (Z=pos+lm.2.2):=a0;have f:=f2.new (ag w1.heap.size);clear a0 c1 c2 c3 t1 t2;have b7:vF (w1.alloc (.cells #[.int .u8 0,.int .i64 0,.int .u64 0] 314)).drew kb lZ z:=t3.iU (w':=w1.alloc (.cells #[.int .u8 0,.int .i64 0,.int .u64 0] 314)) (fun b hb=>alloc_old hb);have b8:Rd (w1.alloc (.cells #[.int .u8 0,.int .i64 0,.int .u64 0] 314)).drew A.tb A.rb s Z:=(f2.alloc _).drew;have b9:(w1.alloc (.cells #[.int .u8 0,.int .i64 0,.int .u64 0] 314)).drew.heap[w1.heap.size]?=some (.cells #[.int .u8 0,.int .i64 0,.int .u64 0] 314 (0,0)):=jY w1 _ _ rfl;have c4:RF A.tb A.rb w1 (w1.alloc (.cells #[.int .u8 0,.int .i64 0,.int .u64 0] 314)).drew:=((RF.refl _ _ w1).alloc _).drew;have c5:RF A.tb A.rb w1 w1.drew:=(RF.refl _ _ w1).drew;go_upto_region 4 with fail
 go_cut [8,9] (fun v8 v10 wx=> ∃(m:Nat×Nat×Nat) (v:ay) (b:Nat),v8=v/\v10= .pointer (some ⟨b,0,none⟩)/\rY wx b m/\rE A.tb A.rb s (bJ z).cs Z lZ w1 m v wx)
 case first=>
  go_region_with (first
   |(go_at_call 198;refine(zS kb A.tb A.rb z s Z (w1.alloc (.cells #[.int .u8 0,.int .i64 0,.int .u64 0] 314)).drew lZ b7 b8 hs hB.len hB.le hB.Di).mono ?_;rintro e w3 ⟨m,v,rfl,i⟩;obtain⟨zz,z0,z1,z2,y0,y1,y2⟩:=Lp i.rf b9 f.2.1 f.2.2;replace i:=rE.from c4 i)
   |(go_at_call 198;refine(zS kb A.tb A.rb z s Z _ lZ (by exact t3) (by exact f2.drew) hs hB.len hB.le hB.Di).mono ?_;rintro e w3 ⟨m,v,rfl,i⟩;replace i:=rE.from c5 i))
  all_goals
   go_wp2_with fail
   go_meet
   case rel=>first
    |exact⟨m,v,_,rfl,rfl,jY w3 _ _ rfl,i.alloc _⟩
    |exact⟨m,v,_,rfl,rfl,(bG (bG (bG zz 0 _) 1 _) 2 _).trans (by simp),((i.set (ag _) f.1 f.2.1 f.2.2 zz (by decide) 0 _).set (ag _) f.1 f.2.1 f.2.2 (bG zz 0 _) (by decide) 1 _).set (ag _) f.1 f.2.1 f.2.2 (bG (bG zz 0 _) 1 _) (by decide) 2 _⟩
 case rest=>
  obtain⟨m,v,b,rfl,rfl,a6,hR⟩:=hcut;rcases hR with⟨d,r,c6,c7,rfl,i,g2⟩|⟨e1,⟨T,a,rfl,g0⟩,i,g2⟩;rotate_left
  ·have k:=L.Ag i g2;have X:dO A.tb _ T a (Stop S (kC s aN most (bJ z).cs y ⟨⟨pos,false⟩,out⟩)):=g0.imp (fun g0=> .inl (Ic (by rw[Q.out,<-x.out];exact g0)));clear g0 a6;go_wp2_with fail
   go_ret;exact .inr ⟨⟨T,a,rfl,X⟩,k.1,E.trans k.2⟩
  ·have F:ah _:=c6;have c8:ah _:=c7;clear c6 c7;have p:=L.rd r i g2;obtain⟨m0,m1,m2⟩:=a6.c;clear b7 b8 b9 c4 c5 o1 o2 b6 c0 t3;by_cases hd:d<=29
   ·have G:m=(4,iK d):=by rw[c8.out];exact TI d hd
    have e2:=OA d hd;subst G;go_wp2_with fail
    refine(Ih S A s aN most ⟨⟨r,false⟩,out⟩ (4,iK d) _ _ _ p.1 (Us S A s aN most R U) hs (by dsimp only;omega) (by dsimp only;omega) (by dsimp only;omega)).mono ?_;rintro e w4 (⟨J,b2,kr,rfl,b3,b4,b5⟩|⟨⟨n,T,a,rfl,J⟩,b2,b3⟩)
    ·dsimp only at J b2 b3;have d9:bH s r (iK d).2<65536:=bu (fQ s r _) (show 2^(iK d).2<=2^16 from b_ (by omega) (by omega));obtain⟨back,q⟩:∃back,back=(iK d).1+bH s r (iK d).2:=⟨_,rfl⟩;dsimp only at kr;rw[<-q]at kr|-;have k:kC s aN most (bJ z).cs y ⟨⟨pos,false⟩,out⟩=BI most back l ⟨⟨r+(iK d).2,false⟩,out⟩:=by
      rw[QK (by rw[Q.out,<-x.out]) F.out hd (jc s _ r b2),<-q,au (by omega)];have:=HN.out;rw[Q.out]at this;rw[d7.out,this]
     have H:ah _:=k;have c9:=(E.trans p.2).trans b4;have d8:1<=back:=by omega
     clear k q p E b4 b5 L a6 m0 m1 m2;go_wp2_with fail
     go_loopw [56] (fun iv wr=> ∃(j:Nat) (t:US),j<=l/\iv= .int .i64 (j:Int)/\BI most back l ⟨⟨r+(iK d).2,false⟩,out⟩=BI most back (l-j) t/\t.out.length=out.length+j/\UP S wr A s aN most t/\PE A.base w wr) (fun iv _=>l-(aX iv).toNat)
     case atStart=>exact⟨0,⟨⟨r+(iK d).2,false⟩,out⟩,aU _,rfl,rfl,rfl,b3,c9⟩
     case round=>
      clear b3 c9;obtain⟨j,t,hj,rfl,d0,d1,hU,a7⟩:=hrel;have HT:ah _:=d0;have d2:ah (t.out.length=out.length+j):=d1;clear d0 d1;by_cases e3:j<l
      ·obtain⟨c0,c1,c2,c3⟩:=hU.cells;obtain⟨vr,hr⟩:=hU.ring;have g:t.st.dA=false:=hU.facts.1;have H1:ah (back<=min t.out.length aN/\t.out.length<most):=(by have:=d2.out;omega:_/\_);have H2:ah (BI most back (l-j) t=BI most back (l-(j+1)) ⟨t.st,t.out++[t.out.getD (t.out.length-back) 0]⟩):=(by
        rw[show l-j=(l-(j+1))+1 by omega,Sl most back _ t g,tX most _ t (by have:=H1.out;omega) g]:_=_)
       go_wp2_with fail
       refine(Lc A.gb A.base vr aN back t.out _ hr R U d8 H1.out.1).mono ?_;rintro e w1 ⟨rfl,I⟩;have I:=I.symm;subst I;go_wp2_with fail
       refine(hP A s aN most t (t.out.getD (t.out.length-back) 0) _ rfl hU H1.out.2 hm R U).mono ?_;rintro e w2 (⟨rfl,i,g2⟩|⟨⟨T,a,rfl,g0⟩,i,g2⟩);rotate_left
       ·have X:dO A.tb w2 T a (Stop S (kC s aN most (bJ z).cs y ⟨⟨pos,false⟩,out⟩)):=g0.imp (fun uJ=> .inr ⟨_,uJ,by
         rw[H.out,HT.out,H2.out];exact VY most back _ ⟨t.st,t.out++[t.out.getD (t.out.length-back) 0]⟩⟩)
        clear c0 c1 c2 c3 hr g0;go_wp2_with fail
        go_ret;exact .inr ⟨⟨T,a,rfl,X⟩,i,a7.trans g2⟩
       clear c0 c1 c2 c3 hr;go_wp2_with fail
       go_roundw
       case rel=>exact⟨j+1,_,by omega,by go_num,HT.out.trans H2.out,by simp only[List.length_append,List.length_singleton];have:=d2.out;omega,i,a7.trans g2⟩
       case measure=>simp[aX];omega
      ·have H2:ah (BI most back l ⟨⟨r+(iK d).2,false⟩,out⟩=t):=(by rw[HT.out,show l-j=0 by omega];rfl:_=_);go_wp2_with fail
       go_ret;exact .inl ⟨by rw[H.out,H2.out];exact hU.facts.1,rfl,by rw[H.out,H2.out];exact hU,a7⟩
    ·have X:dO A.tb w4 T a (Stop S (kC s aN most (bJ z).cs y ⟨⟨pos,false⟩,out⟩)):=J.imp (fun J=> .inl (by
      by_cases hb:(bI s (iK d).2 ⟨r,false⟩).2.dA=true
      ·refine Um ?_ ?_
       ·dsimp only;rw[Q.out,<-x.out,F.out];exact Nat.not_lt.2 hd
       ·dsimp only;rw[Q.out,<-x.out,F.out];exact hb
      ·have Y:r+(iK d).2<=8*s.size:=Nat.le_of_not_lt (fun hc=>hb (uN s _ r i.AU (by omega)));rcases J with J|J
       ·exact absurd J hb
       ·dsimp only at J;rw[QK (by rw[Q.out,<-x.out]) F.out hd (jc s _ r Y),aC (by omega)]))
     clear J;go_wp2_with fail
     go_ret;exact .inr ⟨⟨T,a,rfl,X⟩,b2,(E.trans p.2).trans b3⟩
   ·have G:m=(0,0,0):=by rw[c8.out];unfold lZ;rw[au (by omega),au (by omega)]
    subst G;go_wp2_with fail
    refine(dJ _ _).mono ?_;rintro e w4 ⟨rfl,rfl⟩;go_wp2_with fail
    go_ret;refine .inr ⟨⟨_,_,rfl,dO.ve (.inl (Ll ?_))⟩,p.1.ue.alloc _,(E.trans p.2).trans (PE.alloc _ _ _ p.1.base)⟩;dsimp only;rw[Q.out,<-x.out,F.out];exact Nat.lt_of_not_le hd
end Pr
end Go.Proofs.YtephkcdbnogdhaaGreatDoor
