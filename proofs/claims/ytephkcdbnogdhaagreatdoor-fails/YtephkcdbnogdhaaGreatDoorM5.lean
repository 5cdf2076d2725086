import Derived.Test.YtephkcdbnogdhaaGreatDoorM2
set_option linter.unusedVariables false
set_option maxHeartbeats 40000000
set_option maxRecDepth 10000
namespace Go.Proofs.YtephkcdbnogdhaaGreatDoor
open Go.Proofs.Tryz
open Go renaming World->af,Value->ay,Calls->aF,TypeId->aY
open Go.RowKit renaming Hid->ah,Below->aJ,intOf->aX
namespace kW
open Go.RowKit Rf
theorem mY{base rb ub:Nat}{w w':af}(hb:base<=w.heap.size)(h:aJ w.heap.size w w'):nO base rb ub w w':=
 ⟨h.os,h.tape,h.output,h.size,fun k a _ _=>h.block k (by omega),fun k _ _ _ e _ _ _=>h.block k (Array.getElem?_eq_some_iff.1 e).1⟩
theorem sZ.below{w w':af}{base rb ub aN most:Nat}{s:ByteArray}{u:US}(h:sZ w base rb ub s aN most u)(hb:aJ w.heap.size w w'):sZ w' base rb ub s aN most u:=by
 obtain⟨d,e,f,h3,i,j,v,h6,k⟩:=h;refine⟨d.over (hb.block rb (by omega)),e,f,h3,aK i hb.size,j,v,(hb.block ub (by omega)).trans h6,?_⟩;obtain⟨a,b⟩:=k;refine⟨a,?_⟩;rcases b with b|⟨g,cap,cur,l,m,c,r⟩
 ·exact .inl b
 ·exact .inr ⟨g,cap,cur,l,m,(hb.block g (rJ c)).trans c,r⟩
theorem sZ.ne{w:af}{base rb ub aN most g:Nat}{s:ByteArray}{u:US}{cur:Array ay}{T:aY}(h:sZ w base rb ub s aN most u)(e:w.heap[g]?=some (.cells cur T (0,0)))(a:T≠91)(b:T≠93):g≠rb/\g≠ub:=by refine⟨JV h.1 e a,fun x=> ?_⟩;subst x;obtain⟨_,_,_,_,_,_,v,h6,_⟩:=h;rw[e]at h6;simp at h6;exact b h6.2
theorem dD.over{w w':af}{v:ay}{cs:List (Nat×List UInt8)}(h:dD w v cs)(e:∀(k:Nat) (cur:Array ay),w.heap[k]?=some (Obj.cells cur 254 (0,0))->w'.heap[k]?=w.heap[k]?):dD w' v cs:=by
 rcases h with h|⟨g,cap,cur,b,c,a,r⟩
 ·exact .inl h
 ·exact .inr ⟨g,cap,cur,b,c,(e g cur a).trans a,r⟩
theorem dD.below{w w':af}{v:ay}{cs:List (Nat×List UInt8)}(h:dD w v cs)(hb:aJ w.heap.size w w'):dD w' v cs:=dD.over h fun k _ e=>hb.block k (rJ e)
theorem dD.vw{w w':af}{v:ay}{cs:List (Nat×List UInt8)}{base rb ub aN most:Nat}{s:ByteArray}{u:US}(h:dD w v cs)(b:sZ w base rb ub s aN most u)(c:nO base rb ub w w'):dD w' v cs:=
 dD.over h fun k cur e=>have a:=b.ne e (by decide) (by decide);c.other k cur _ _ e (by decide) a.1 a.2
theorem jZ.over{w w':af}{v:ay}{L:List Nat}(h:jZ w v L)(e:∀(k:Nat) (cur:Array ay),w.heap[k]?=some (Obj.cells cur 3 (0,0))->w'.heap[k]?=w.heap[k]?):jZ w' v L:=by obtain⟨g,off,cap,cur,b,c,a,r⟩:=h;exact⟨g,off,cap,cur,b,c,(e g cur a).trans a,r⟩
theorem jZ.below{w w':af}{v:ay}{L:List Nat}(h:jZ w v L)(hb:aJ w.heap.size w w'):jZ w' v L:=jZ.over h fun k _ e=>hb.block k (rJ e)
def CP(aN len Dp:Nat)(st:bZ):bZ:=if aN<Dp\/len<Dp then⟨st.pos,true⟩else st
theorem sZ.u1{w:af}{base rb ub aN most:Nat}{s:ByteArray}{u:US}(h:sZ w base rb ub s aN most u):∃b cap,w.cell? ⟨ub,1,none⟩=some (.slice b u.out.length cap)/\
 (0<u.out.length->∃g,b=some ⟨g,0,none⟩/\u.out.length<=cap/\∀i,i<u.out.length->w.cell? ⟨g,i,none⟩=some (.int .u8 (((u.out.getD i 0).toNat:Nat):Int))):=by
 obtain⟨_,_,_,_,_,_,v,h6,c⟩:=h;rcases c.2 with⟨rfl,e⟩|⟨g,cap,cur,rfl,_,d,f,_,_,a⟩
 ·exact⟨none,0,by simp[World.cell?,h6,e],fun h=>by omega⟩
 ·refine⟨some ⟨g,0,none⟩,cap,by simp[World.cell?,h6],fun _=>⟨g,rfl,f,fun i hi=> ?_⟩⟩;have e:(cur.toList.take (u.out.length*1))[i]?=(byteCells u.out)[i]?:=by rw[a]
  rw[mO,aC (by omega),kE]at e;rw[iR d,e];simp[byteCells,List.getD,List.getElem?_eq_getElem hi]
theorem abk(most:Nat)(x:UInt8)(u:US):u.out.length<=(mQ most x u).out.length:=by
 unfold mQ;split
 ·exact ag _
 ·split
  ·exact ag _
  ·simp
theorem Wl(most:Nat)(x:UInt8)(u:US):(mQ most x u).st.dA=true\/(mQ most x u).st.pos=u.st.pos:=by
 unfold mQ;split
 ·exact .inl rfl
 ·split
  ·exact .inr rfl
  ·exact .inr rfl
def Rj(w:af)(b N:Nat):Nat:=match w.cell? ⟨b,2,none⟩with
 |some (.bool true)=>0
 |_=>N-(aX ((w.cell? ⟨b,1,none⟩).getD undef)).toNat+1
theorem abl{w:af}{b N:Nat}{s:ByteArray}{st:bZ}(h:je w b s st)(hb:st.dA=true):Rj w b N=0:=by unfold Rj;rw[h.c2,hb]
theorem Wn{w:af}{b N:Nat}{s:ByteArray}{st:bZ}(h:je w b s st)(hb:st.dA=false):Rj w b N=N-st.pos+1:=by unfold Rj;rw[h.c2,hb,h.c1];simp[aX]
theorem sJ{w w':af}{b:Nat}{s:ByteArray}{st m_:bZ}(h:je w b s st)(hb:st.dA=false)(c:je w' b s m_)(hm:m_.dA=true\/st.pos+1<=m_.pos):Rj w' b (8*s.size)<Rj w b (8*s.size):=by
 rw[Wn h hb];have:=h.2;have:=c.2;cases a:m_.dA with
 |true=>rw[abl c a];omega
 |false=>
  rw[Wn c a];rcases hm with hm|hm
  ·rw[a]at hm;cases hm
  ·omega
theorem UI(base rb ub:Nat)(s:ByteArray)(aN most:Nat)(u:US)(La Lb:List Nat)(A B:List (Nat×List UInt8))(hA:A=(bJ La).cs)(hB:B=(bJ Lb).cs)(v1 v2:ay)(w:af)(hU:sZ w base rb ub s aN most u)(hs:s.size<=140737488351232)(hm:most<=16777216)(k9:aN<=32768)
 (h1:jZ w v1 La) (h2:jZ w v2 Lb) (ha:La.length<=400) (hb:Lb.length<=400) (e2:∀i,La.getD i 0<=15) (e3:∀i,Lb.getD i 0<=15):
 aF prog 81 #[.pointer (some ⟨ub,0,none⟩),v1,v2] w fun e w'=>e= .returned (.tuple #[])/\sZ w' base rb ub s aN most (gm s aN most A B (8*s.size+1) u)/\nO base rb ub w w':=by
 go_enter func81,ntmps81
 go_wp2_with fail
 refine(wH La v1 _ h1 ha e2).mono ?_;rintro e w1 ⟨va,rfl,e4,a7⟩;have c6:=hU.below a7;have e5:=mY (rb:=rb) (ub:=ub) hU.2.2.2.2.1 a7;have e6:=jZ.below h2 a7;go_wp2_with fail
 refine(wH Lb v2 _ e6 hb e3).mono ?_;rintro e w2 ⟨vb,rfl,e7,a8⟩;have e8:=c6.below a8;have i0:=e5.trans (mY (rb:=rb) (ub:=ub) c6.2.2.2.2.1 a8);have b3:=dD.below e4 a8;have m0:=e8.u0;have e9:=AB La ha;have f1:=AB Lb hb;rw[<-hA]at b3 e9;rw[<-hB]at e7 f1;clear hA hB;clear e4 a7 a8 e5 c6 h1 h2 e6;go_wp2_with fail
 go_loopw [] (fun wr=> ∃(f:Nat) (t:US),gm s aN most A B (8*s.size+1) u=gm s aN most A B f t/\(t.st.dA=true\/8*s.size-t.st.pos<f)/\sZ wr base rb ub s aN most t/\nO base rb ub w wr/\dD wr va A/\dD wr vb B) (fun wr=>Rj wr rb (8*s.size))
 case atStart=>exact⟨8*s.size+1,u,rfl,.inr (by omega),e8,i0,b3,e7⟩
 case round=>
  obtain⟨f,t,hF,c7,q,f2,b4,f3⟩:=hrel;have i1:=q.1.c2;obtain⟨⟨b,tb⟩,a⟩:=t;cases tb
  ·have l0:8*s.size-b<f:=by simpa using c7
   obtain⟨f,rfl⟩:∃g,f=g+1:=⟨f-1,by omega⟩;have HF:ah _:=hF;have m1:a.length<=most:=q.2.2.2.2.2.1;clear hF c7;go_wp2_with fail
   refine(AP rb s ⟨b,false⟩ A va _ q.1 hs b4 e9).mono ?_;rintro e w3 ⟨rfl,a9,b0⟩;have l:=q.row b0 _ a9;have W:=f2.trans (b0.vw (base:=base) (ub:=ub));have M:=dD.vw b4 q (b0.vw (base:=base) (ub:=ub));have N:=dD.vw f3 q (b0.vw (base:=base) (ub:=ub));have f4:=JU s A ⟨b,false⟩;have HE:ah ((cu s A ⟨b,false⟩).2.dA=true->gm s aN most A B (8*s.size+1) u=⟨(cu s A ⟨b,false⟩).2,a⟩):=fun h=>HF.out.trans (JP s aN most A B f ⟨⟨b,false⟩,a⟩ rfl h);have HP:ah ((cu s A ⟨b,false⟩).2.dA=false->(cu s A ⟨b,false⟩).1<256->gm s aN most A B (8*s.size+1) u=gm s aN most A B f (mQ most (UInt8.ofNat (cu s A ⟨b,false⟩).1) ⟨(cu s A ⟨b,false⟩).2,a⟩)):=fun h h'=>HF.out.trans (JQ s aN most A B f ⟨⟨b,false⟩,a⟩ rfl h h');have HS:ah ((cu s A ⟨b,false⟩).2.dA=false->(cu s A ⟨b,false⟩).1=256->gm s aN most A B (8*s.size+1) u=⟨(cu s A ⟨b,false⟩).2,a⟩):=fun h h'=>HF.out.trans (AO s aN most A B f ⟨⟨b,false⟩,a⟩ rfl h h');have HN:ah ((cu s A ⟨b,false⟩).2.dA=false->285<(cu s A ⟨b,false⟩).1->gm s aN most A B (8*s.size+1) u=⟨⟨(cu s A ⟨b,false⟩).2.pos,true⟩,a⟩):=fun h h'=>HF.out.trans (Fv s aN most A B f ⟨⟨b,false⟩,a⟩ rfl h h');have HX:ah ((cu s A ⟨b,false⟩).2.dA=false->257<=(cu s A ⟨b,false⟩).1->(cu s A ⟨b,false⟩).1<=285->(iQ s aN a.length B (cu s A ⟨b,false⟩).1 (cu s A ⟨b,false⟩).2).stop=true->gm s aN most A B (8*s.size+1) u=⟨(iQ s aN a.length B (cu s A ⟨b,false⟩).1 (cu s A ⟨b,false⟩).2).st,a⟩):=fun h h' c8 g=>HF.out.trans (JR s aN most A B f ⟨⟨b,false⟩,a⟩ rfl h h' c8 g);have HC:ah ((cu s A ⟨b,false⟩).2.dA=false->257<=(cu s A ⟨b,false⟩).1->(cu s A ⟨b,false⟩).1<=285->(iQ s aN a.length B (cu s A ⟨b,false⟩).1 (cu s A ⟨b,false⟩).2).stop=false->gm s aN most A B (8*s.size+1) u=gm s aN most A B f (BI most (iQ s aN a.length B (cu s A ⟨b,false⟩).1 (cu s A ⟨b,false⟩).2).Dp (iQ s aN a.length B (cu s A ⟨b,false⟩).1 (cu s A ⟨b,false⟩).2).n ⟨(iQ s aN a.length B (cu s A ⟨b,false⟩).1 (cu s A ⟨b,false⟩).2).st,a⟩)):=fun h h' c8 g=>HF.out.trans (Fz s aN most A B f ⟨⟨b,false⟩,a⟩ rfl h h' c8 g);generalize cu s A ⟨b,false⟩=z at*;obtain⟨y,E,zb⟩:=z;have i2:=a9.c2;have i3:=a9.free 2;clear i1 a9 HF;cases zb
   ·have m2:E<=8*s.size:=l.1.2;have f5:b+1<=E:=by simpa using f4
    clear HE f4;by_cases i4:y<256
    ·have X:ah (((UInt8.ofNat y).toNat:Nat)=((y:Nat):Int)):=(by rw[tN];omega:_=_);have i5:ah _:=HP.out (by first|rfl|trivial) i4;clear HP HS HN HX HC;go_wp2_with fail
     refine(Md base rb ub s aN most ⟨⟨E,false⟩,a⟩ (UInt8.ofNat y) _ X.out _ l hm).mono ?_;rintro e w4 ⟨rfl,r,F⟩;have Y:=Wl most (UInt8.ofNat y) ⟨⟨E,false⟩,a⟩;have I:=dD.vw M l F;have x:=dD.vw N l F;generalize mQ most (UInt8.ofNat y) ⟨⟨E,false⟩,a⟩=P at*;go_wp2
     go_roundw
     case rel=>exact⟨f,P,i5.out,Y.imp id (fun h=>by rw[h];show 8*s.size-E<f;omega),r,W.trans F,I,x⟩
     case measure=>exact sJ q.1 rfl r.1 (Y.imp id (fun h=>by rw[h];exact f5))
    ·by_cases i6:y=256
     ·subst i6;have i7:ah _:=HS.out (by first|rfl|trivial) rfl;clear HP HS HN HX HC;go_wp2
      refine aI (results_none rfl _ _ _) rfl ?_;exact⟨rfl,by rw[i7.out];exact l,W⟩
     ·have l1:((y:Int)==256)=false:=by rw[ax];omega
      by_cases i9:285<y
      ·have j0:ah _:=HN.out (by first|rfl|trivial) i9;have r:=l.row ((kH.refl rb w3).setCell 2 (.bool true)) _ (l.1.vk true);have F:nO base rb ub w3 (w3.setCell ⟨rb,2,none⟩ (.bool true)):=(nO.refl base rb ub w3).set rb 2 (.inl rfl) _;have I:=dD.vw M l F;have x:=dD.vw N l F;clear HP HS HN HX HC;go_wp2
       go_roundw
       case rel=>exact⟨f,⟨⟨E,true⟩,a⟩,by rw[j0.out,wG _ _ _ _ _ _ _ rfl],.inl rfl,r,W.trans F,I,x⟩
       case measure=>exact sJ q.1 rfl r.1 (.inl rfl)
      ·have X:ah _:=HX.out (by first|rfl|trivial) (by omega) (by omega);have c9:ah _:=HC.out (by first|rfl|trivial) (by omega) (by omega);clear HP HS HN HX HC;have d0:=LV y (by omega) (by omega);go_wp2_with fail
       refine(Sr y _ (by omega) (by omega)).mono ?_;rintro e wl ⟨rfl,rfl⟩;go_wp2_with fail
       refine(gu rb s ⟨E,false⟩ (ja y).2 _ rfl _ l.1 hs (by omega)).mono ?_;rintro e w4 ⟨rfl,f6,d1⟩;have r:=l.row d1 _ f6;have O:nO base rb ub _ w4:=d1.vw (base:=base) (ub:=ub);have I:=dD.vw M l O;have x:=dD.vw N l O;have F:=W.trans O;have f7:=oG s (ja y).2 ⟨E,false⟩;have b5:(bI s (ja y).2 ⟨E,false⟩).1<64:=bu f7 (uC _ 6 d0.2);have b6:=mF s (ja y).2 ⟨E,false⟩;clear f7 O d1 f6 i2 i3;go_wp2_with fail
       refine(AP rb s _ B vb _ r.1 hs x f1).mono ?_;rintro e w5 ⟨rfl,f8,d2⟩;have J:=r.row d2 _ f8;have Q:nO base rb ub _ w5:=d2.vw (base:=base) (ub:=ub);have b7:=dD.vw I r Q;have b8:=dD.vw x r Q;have d4:=F.trans Q;have b9:=Fb s B (bI s (ja y).2 ⟨E,false⟩).2;have d5:ah _:=AL s aN a.length B y ⟨E,false⟩;have d6:ah _:=um s aN a.length B y ⟨E,false⟩;clear Q d2 f8 r F I x;generalize cu s B (bI s (ja y).2 ⟨E,false⟩).2=D at*;generalize bI s (ja y).2 ⟨E,false⟩=X1 at*;obtain⟨d,dst⟩:=D;obtain⟨U,l3⟩:=X1;have j1:=J.1.free 2;have j2:=J.1.c2;generalize (ja y).1=V at*;have m3:V<=2000:=d0.1;have l4:U<64:=b5;clear d0 b5;by_cases hd:29<d
       ·have K:ah _:=d5.out hd;have j3:ah (gm s aN most A B (8*s.size+1) u=⟨⟨dst.pos,true⟩,a⟩):=(by rw[X.out (by rw[K.out]),K.out]:_=_);clear X c9 d5 d6 K;go_wp2
        refine aI (results_none rfl _ _ _) rfl ?_;exact⟨rfl,by rw[j3.out];exact J.row ((kH.refl rb w5).setCell 2 _) _ (J.1.vk true),d4.set rb 2 (.inl rfl) _⟩
       ·have K:ah _:=d6.out hd;have b1:=OA d (by omega);clear X d5 d6;go_wp2_with fail
        refine(LX d _ (by omega)).mono ?_;rintro e wd ⟨rfl,rfl⟩;go_wp2_with fail
        refine(gu rb s dst (iK d).2 _ rfl _ J.1 hs (by omega)).mono ?_;rintro e w6 ⟨rfl,f9,d7⟩;have G:=J.row d7 _ f9;have R:nO base rb ub _ w6:=d7.vw (base:=base) (ub:=ub);have Z:=dD.vw b7 J R;have a0:=dD.vw b8 J R;have d8:=d4.trans R;have g0:=oG s (iK d).2 dst;have c3:(bI s (iK d).2 dst).1<8192:=bu g0 (uC _ 13 b1.2.2);have c4:=mF s (iK d).2 dst;have g1:ah _:=c9.out (by rw[K.out]);clear g0 R d7 f9 j1 j2 J d4 b7 b8 c9;generalize bI s (iK d).2 dst=X2 at*;obtain⟨p,c⟩:=X2;generalize (iK d).1=o at*;have l5:1<=o:=b1.1;have l6:o<=245761:=b1.2.1;have l7:p<8192:=c3;have g2:E<=c.pos:=aK (aK b6 b9) c4;clear b1 c3 b6 b9 c4;obtain⟨ao,cap,j4,_⟩:=G.u1;have j5:=G.u2;have j6:=G.1.free 2;have j7:=G.1.c2;obtain⟨fb,g3⟩:∃fb:Bool,fb=decide (aN<o+p\/a.length<o+p):=⟨_,rfl⟩;have a1:ah _:=g3;clear g3;go_upto_region 12 with fail
        go_cut [82] (fun v wx=>v= .bool fb/\wx=w6)
        case first=>
         by_cases m4:aN<o+p
         ·go_wp2
          go_meet
          case rel=>exact⟨by rw[a1.out];exact gY Value.bool (by rw[uB];simp;omega),rfl⟩
         ·by_cases g4:a.length<o+p
          ·go_wp2
           go_meet
           case rel=>exact⟨by rw[a1.out];exact gY Value.bool (by rw[uB];simp;omega),rfl⟩
          ·go_wp2
           go_meet
           case rel=>exact⟨by rw[a1.out];exact gY Value.bool (by rw[uB];simp;omega),rfl⟩
        case rest=>
         obtain⟨rfl,d9⟩:=hcut;have d9:=d9.symm;subst d9;go_upto_if 82 with fail
         go_cut [] (fun wx=>sZ wx base rb ub s aN most ⟨CP aN a.length (o+p) c,a⟩/\nO base rb ub w wx/\dD wx va A/\dD wx vb B)
         case first=>
          cases fb
          ·have HI:ah (CP aN a.length (o+p) c=c):=au (of_decide_eq_false a1.out.symm);go_wp2
           go_meet
           case rel=>exact⟨by rw[HI.out];exact G,d8,Z,a0⟩
          ·have HI:ah (CP aN a.length (o+p) c=⟨c.pos,true⟩):=aC (nS a1.out.symm);have a2:nO base rb ub w6 (w6.setCell ⟨rb,2,none⟩ (.bool true)):=(nO.refl base rb ub w6).set rb 2 (.inl rfl) _;go_wp2
           go_meet
           case rel=>exact⟨by rw[HI.out];exact G.row ((kH.refl rb w6).setCell 2 _) _ (G.1.vk true),d8.trans a2,dD.vw Z G a2,dD.vw a0 G a2⟩
         case rest=>
          obtain⟨j8,a2,g5,g6⟩:=hcut;have g9:ah (gm s aN most A B (8*s.size+1) u=gm s aN most A B f (BI most (o+p) (V+U) ⟨CP aN a.length (o+p) c,a⟩)):=(by rw[g1.out,K.out];rfl:_=_);have j9:ah ((CP aN a.length (o+p) c).dA=true\/o+p<=a.length):=(by
           by_cases h:aN<o+p\/a.length<o+p
           ·unfold CP;rw[aC h];exact .inl rfl
           ·exact .inr (by omega):_\/_)
          have k0:ah (E<=(CP aN a.length (o+p) c).pos):=(by unfold CP;split<;>exact g2:_<=_);clear g1 K j4 j5 j6 j7 G d8 Z a0 g2;generalize (CP aN a.length (o+p) c)=a3 at*;go_wp2_with fail
          go_loopw [17] (fun i wr=> ∃(k j:Nat) (t:US),k+j=V+U/\BI most (o+p) (V+U) ⟨a3,a⟩=BI most (o+p) j t/\(t.st.dA=true\/o+p<=t.out.length)/\(t.st.dA=true\/E<=t.st.pos)/\i= .int .i64 k/\sZ wr base rb ub s aN most t/\nO base rb ub w wr/\dD wr va A/\dD wr vb B) (fun i _=>V+U-(aX i).toNat)
          case atStart=>exact⟨0,V+U,⟨a3,a⟩,by omega,rfl,j9.out,.inr k0.out,rfl,j8,a2,g5,g6⟩
          case round=>
           obtain⟨k,j,t,e0,hL,b2,S,rfl,C,e1,a4,a5⟩:=hrel;have l8:=C.1.c2;have tu:t.st.pos<=8*s.size:=C.1.2;obtain⟨⟨L,cb⟩,cout⟩:=t;cases j with
           |zero=>
            have HL:ah (BI most (o+p) (V+U) ⟨a3,a⟩=⟨⟨L,cb⟩,cout⟩):=hL;have k1:¬(k:Int)<(V:Int)+(U:Int):=by omega
            have k2:ah _:=S;have k3:ah (cb=true\/8*s.size-L<f):=S.imp id (fun h=>by simp at h tu;omega);clear hL e0 b2 S;go_wp2
            go_roundw
            case rel=>exact⟨f,⟨⟨L,cb⟩,cout⟩,by rw[g9.out,HL.out],k3.out,C,e1,a4,a5⟩
            case measure=>exact sJ q.1 rfl C.1 (k2.out.imp id (fun h=>by simp at h;show b+1<=L;omega))
           |succ j=>
            have k1:(k:Int)<(V:Int)+(U:Int):=by omega
            cases cb
            ·have g4:o+p<=cout.length:=by simpa using b2
             have k4:E<=L:=by simpa using S
             obtain⟨ao,cap,m5,h0⟩:=C.u1;obtain⟨g,rfl,l9,c5⟩:=h0 (by show 0<cout.length;omega);have m6:cout.length<=most:=C.2.2.2.2.2.1;obtain⟨m,h4⟩:∃m,m=cout.length-(o+p):=⟨_,rfl⟩;have h5:m<cout.length:=by omega
             have k5:=c5 m h5;have HL:ah (BI most (o+p) (V+U) ⟨a3,a⟩=BI most (o+p) j (mQ most (cout.getD m 0) ⟨⟨L,false⟩,cout⟩)/\k+1+j=V+U):=(⟨by rw[hL,Sl _ _ _ _ rfl,h4],by omega⟩:_/\_);have m7:IntKind.i64.wrap ((cout.length:Int)-((o:Int)+(p:Int)))=(m:Int):=by rw[bK];omega
             clear hL e0 b2 S c5 h4 h0;go_wp2_with fail
             have Y:=Wl most (cout.getD m 0) ⟨⟨L,false⟩,cout⟩;have ql:=abk most (cout.getD m 0) ⟨⟨L,false⟩,cout⟩;have k6:ah ((mQ most (cout.getD m 0) ⟨⟨L,false⟩,cout⟩).st.dA=true\/E<=(mQ most (cout.getD m 0) ⟨⟨L,false⟩,cout⟩).st.pos):=Y.imp id (fun h=>by rw[h];exact k4);have k7:ah ((mQ most (cout.getD m 0) ⟨⟨L,false⟩,cout⟩).st.dA=true\/o+p<=(mQ most (cout.getD m 0) ⟨⟨L,false⟩,cout⟩).out.length):= .inr (aK g4 ql);clear Y ql;go_region_with (go_at_call 115;refine(Md base rb ub s aN most ⟨⟨L,false⟩,cout⟩ (cout.getD m 0) _ (by simp[List.getD,List.getElem?_eq_getElem h5]) _ (by exact C) hm).mono ?_;rintro e wz ⟨rfl,k8,T⟩)
             all_goals
              have a6:nO base rb ub wr wz:=⟨T.os,T.tape,T.output,T.size,T.low,T.other⟩;have h7:=dD.vw a4 C a6;have h9:=dD.vw a5 C a6;go_wp2
              go_roundw
              case rel=>exact⟨k+1,j,_,HL.out.2,HL.out.1,k7.out,k6.out,by go_num,k8,e1.trans a6,h7,h9⟩
              case measure=>simp[aX];omega
            ·have HL:ah (BI most (o+p) (V+U) ⟨a3,a⟩=⟨⟨L,true⟩,cout⟩):=hL.trans (BJ _ _ _ _ rfl);clear hL e0 b2 S;go_wp2
             go_roundw
             case rel=>exact⟨f,⟨⟨L,true⟩,cout⟩,by rw[g9.out,HL.out],.inl rfl,C,e1,a4,a5⟩
             case measure=>exact sJ q.1 rfl C.1 (.inl rfl)
   ·clear HP HS HN HX HC;go_wp2
    go_roundw
    case rel=>exact⟨f,⟨⟨E,true⟩,a⟩,by rw[HE.out (by first|rfl|trivial),wG _ _ _ _ _ _ _ rfl],.inl rfl,l,W,M,N⟩
    case measure=>exact sJ q.1 rfl l.1 (.inl rfl)
  ·have H:ah (gm s aN most A B (8*s.size+1) u=⟨⟨b,true⟩,a⟩):=hF.trans (wG _ _ _ _ _ _ _ rfl);clear hF c7;go_wp2
   go_end0
   exact⟨rfl,by rw[H.out];exact q,f2⟩
theorem zo(base rb ub:Nat)(s:ByteArray)(aN most:Nat)(u:US)(a b:List Nat)(v1 v2:ay)(w:af)(g:sZ w base rb ub s aN most u)(hs:s.size<=140737488351232)(hm:most<=16777216)(c:aN<=32768)
 (h:jZ w v1 a) (j:jZ w v2 b) (k:a.length<=400) (hb:b.length<=400) (d:∀i,a.getD i 0<=15) (f:∀i,b.getD i 0<=15):
 aF prog 81 #[.pointer (some ⟨ub,0,none⟩),v1,v2] w fun e w'=>e= .returned (.tuple #[])/\sZ w' base rb ub s aN most (gm s aN most (bJ a).cs (bJ b).cs (8*s.size+1) u)/\nO base rb ub w w':=
 UI base rb ub s aN most u a b _ _ rfl rfl v1 v2 w g hs hm c h j k hb d f
end kW
end Go.Proofs.YtephkcdbnogdhaaGreatDoor
