import Derived.Deep.DeepHandedRow
import Derived.Deep.DeepWitnessRowRef
import Derived.Test.YtephkcdbnogdhaaGreatDoorE
set_option linter.unusedVariables false
set_option maxHeartbeats 40000000
set_option maxRecDepth 10000
namespace Go.Proofs.YtephkcdbnogdhaaGreatDoor
open Go.Proofs.Tryz
open Go renaming World->af,Value->ay,Calls->aH,TypeId->aW,Addr->bG
open Go.RowKit renaming Hid->au,Below->aA
namespace Pr
open Go.RowKit Rf Cr
open gI (cut fK h_ bz gu bQ gQ fO rC lets Bv dw inW Dt dL Oh zB)
theorem afp{s:ByteArray}{p:Nat}(h2:JO (aF s (p+4))=true):97<=aF s (p+4):=by unfold JO at h2;simp at h2;omega
theorem afv{s:ByteArray}{p:Nat}(hp:p+8<=s.size)(h2:JO (aF s (p+4))=true):fG s (p+4) 4≠nM/\fG s (p+4) 4≠fD/\fG s (p+4) 4≠rD:=by
 have hb:=afp h2;refine⟨fun e=> ?_,fun e=> ?_,fun e=> ?_⟩
 ·have:=Zq hp e;have a:aF nM 0=73:=by decide
  omega
 ·have:=Zq hp e;have a:aF fD 0=73:=by decide
  omega
 ·have:=Zq hp e;have a:aF rD 0=80:=by decide
  omega
theorem afw{s:ByteArray}{p:Nat}(h1:pG s p)(h2:lets s p)(a:jw s (p+8) (bz s p) (cut s (p+4) 4)):rC s p:=(Zn s p).2 ⟨⟨h1,h2⟩,a⟩
theorem agc{s:ByteArray}{K D:Nat}{P:Pt}(h:Rest s P):∀x:PS,x.jQ=2->P=ac5 s x.pos->lC j_ s x.pos->∃y,Ia s K D x y:=by
 induction h with
 | @last p l h1 h2=>
   intro x m e f;unfold ac5 at e;injection e with g i e3 j
   obtain⟨a,b,c,d⟩:=(Og s _).1 f;subst g j;rw[e3]at h1;exact⟨x,.done (afw b c h1) i.symm (by omega) e3.symm h2⟩
 | @more p left name l h1 h2 n v o=>
   intro x m e f;unfold ac5 at e;injection e with g i e3 j
   obtain⟨a,b,c,d⟩:=(Og s _).1 f;subst g i e3 j;have k:=afw b c h2;rcases d with⟨d1,d2⟩|d
   ·obtain⟨q,r,t⟩:=afv a d1;obtain⟨y,u⟩:=o ⟨VM s x.pos,if x.jQ=1 then 2 else x.jQ,x.pl,x.tr,x.pb,x.tb,x.da⟩ (by show(if _ then 2 else _)=2;rw[ax (by omega)];exact m) rfl n;exact⟨y,.other k q r t d2 (afp d1) u⟩
   ·exact absurd d h1
theorem agd{s:ByteArray}{K D:Nat}{p left:Nat}{l:List UInt8}{P:Pt}(h:Ends s p left l P):Rest s P->∀x:PS,x.jQ=1->x.pos=p+left+4->(K=3->x.pb=true)->∃y,Ia s K D x y:=by
 induction h with
 | @stop p left l h1 h2 g=>
   intro i x f hp k;obtain⟨a,b,c,d⟩:=(Ai s _).1 h2;generalize t:(⟨p+left+4+8,fG s (p+left+4+4) 4,bz s (p+left+4),cut s (p+left+4+4) 4⟩:Pt)=P at i;cases i with
   |last j m=>
    injection t with n o e3 q
    subst n q;rw[<-e3]at j;rw[<-hp]at*;exact⟨x,.done (afw b c j) o (by omega) e3 m⟩
   |more j m u v=>
    injection t with n o e3 q
    subst n o e3 q;have e:=afw b c m;rcases d with(⟨d1,d2⟩|d)|d
    ·obtain⟨w,z,A⟩:=afv a d1;rw[<-hp]at*;obtain⟨y,r⟩:=agc (K:=K) (D:=D) v ⟨VM s x.pos,if x.jQ=1 then 2 else x.jQ,x.pl,x.tr,x.pb,x.tb,x.da⟩ (by show(if _ then 2 else _)=2;rw[aG f]) rfl u;exact⟨y,.other e w z A d2 (afp d1) r⟩
    ·exact absurd d j
    ·exact absurd d g
 | @more p left l P h1 h2 g B C=>
   intro i x f hp k;obtain⟨a,b,c,d⟩:=(Ai s _).1 h2;obtain⟨y,r⟩:=C i ⟨VM s x.pos,1,x.pl,x.tr,x.pb,x.tb,x.da++fG s (x.pos+8) (bz s x.pos)⟩ rfl (by show VM s x.pos=_;unfold VM;rw[hp]) k;have e:=afw b c B.first.1
   rw[<-hp]at e g;exact⟨y,.VF e g (by omega) k r⟩
theorem af4{s:ByteArray}{K D:Nat}(hK:K=0\/K=2\/K=3\/K=4\/K=6)(r:K=3->D<=8){p:Nat}{st:Cs}{P1:Pt}{qR:Cs}(h:oJ s D K p st P1 qR):∀P2,Ends s P1.p P1.left P1.l P2->Rest s P2->∀x:PS,x.pos=p->Lk K x st->∃y,Ia s K D x y:=by
 induction h with
 | @here p st h1 h2 o=>
   intro P2 n q x hp g;obtain⟨a,b,c,d⟩:=(yT s _).1 h1;subst hp;have f:=afw b c n.first.1
   have u:K=3->x.pb=true:=fun e=>g.pb.2 (fun w=>o ⟨e,w⟩);obtain⟨y,k⟩:=agd (K:=K) (D:=D) n q ⟨VM s x.pos,1,x.pl,x.tr,x.pb,x.tb,x.da++fG s (x.pos+8) (bz s x.pos)⟩ rfl rfl u;exact⟨y,.VF f h2 (by have:=g.jQ;omega) u k⟩
 | @more p st qR P h1 h2 o z H m=>
   intro P2 n q x hp g;obtain⟨a,b,c,d⟩:=(yT s _).1 h1;subst hp;have f:=afw b c z;unfold YN at m;by_cases i:fG s (x.pos+4) 4=rD
   ·rw[aG i]at m;have v:=(g.VN f r).2 (o.1 i);obtain⟨y,k⟩:=m P2 n q _ rfl (g.adN f v);exact⟨y,.VN f i v k⟩
   ·by_cases j:fG s (x.pos+4) 4=DI
    ·rw[ax i,aG j]at m;obtain⟨A,B,C⟩:=(g.VO f hK).2 (o.2 j);obtain⟨y,k⟩:=m P2 n q _ rfl (g.ac7 f hK (o.2 j));exact⟨y,.VO f j A B C k⟩
    ·rw[ax i,ax j]at m;have t:=g.jQ;rcases d with d|d|d
     ·obtain⟨E,F,G⟩:=afv a d;obtain⟨y,k⟩:=m P2 n q ⟨VM s x.pos,if x.jQ=1 then 2 else x.jQ,x.pl,x.tr,x.pb,x.tb,x.da⟩ rfl ⟨by show(if _ then 2 else _)=0;rw[ax (by omega)];exact t,g.da,g.pb,g.pl,g.tb,g.tr,g.says⟩;exact⟨y,.other f E F G j (afp d) k⟩
     ·exact absurd d i
     ·exact absurd d h2
structure Inv(K:Nat)(x:PS):Prop where
 pl:x.pl.size%3=0
 tr:(K=0\/K=2)->x.tb=true->x.tr.size=2*zB K
theorem agq{s:ByteArray}{K D:Nat}{x y:PS}(h:Ia s K D x y):Inv K x->Inv K y:=by
 induction h with
 |done h1 h2 c d e=>exact id
 |VF h1 h2 c d e b=>exact fun h=>b ⟨h.pl,h.tr⟩
 | @VN x y h1 h2 c d b=>refine fun h=>b ⟨?_,h.tr⟩;show(fG s (x.pos+8) (bz s x.pos)).size%3=0;have:=h1.2.2.1;rw[jW s (x.pos+8) _ (by omega)];exact c.2.2.2.2.2.1
 | @VO x y h1 h2 c d e f b=>
   refine fun h=>b ⟨h.pl,fun g _=> ?_⟩;rcases e with⟨a,_⟩|⟨_,a⟩
   ·omega
   ·exact a.1
 |other h1 h2 c d e f i b=>exact fun h=>b ⟨h.pl,h.tr⟩
end Pr
namespace Pr
open Go.RowKit Rf Cr
open gI (cut fK bz gu gQ rC b_ lV zB)
theorem af5{s:ByteArray}(h0:H0 s)(h:¬ ∃y,Ia s (hK s) (hD s) ps0 y):¬Good s:=by rintro⟨P1,st,t,P2,hw⟩;obtain⟨b,hd,a,-,-⟩:=Ag h0;exact h (af4 b a hw.ahead P2 hw.ends hw.rest ps0 rfl (lk0 _))
end Pr
namespace Pr
open Rf Cr
open gI (cut fK bz gu bQ gQ fO dw rC lets Bv)
theorem Ia.ch{s:ByteArray}{K D:Nat}{x y:PS}(h:Ia s K D x y):rC s x.pos:=by
 cases h with
 |done h1=>exact h1
 |VF h1=>exact h1
 |VN h1=>exact h1
 |VO h1=>exact h1
 |other h1=>exact h1
theorem afE{a b:List UInt8}(h:(⟨a.toArray⟩:ByteArray)=⟨b.toArray⟩):a=b:=by
 injection h with h
 simpa using jo Array.toList h
theorem Ia.next{s:ByteArray}{K D:Nat}{x y:PS}(h:Ia s K D x y){k d:List UInt8}(i:lG s x.pos (qV k d))(j:isKind k)(hd:d.length<=2147483647)(l:k≠rE):
 ∃a,Ia s K D a y/\a.pos=x.pos+(qV k d).length/\((k=DL/\x.jQ<=1/\a.jQ=1)\/((k=yt\/k=uM)/\a.jQ=x.jQ)\/(k≠DL/\k≠yt/\k≠uM/\97<=(k.getD 0 0).toNat/\a.jQ=if x.jQ=1 then 2 else x.jQ)):=by
 obtain⟨c1,c2,c3,c4,c5⟩:=BC i j hd;have ne:∀{m:List UInt8},fG s (x.pos+4) 4=(⟨m.toArray⟩:ByteArray)->k=m:=fun e=>afE (c3.symm.trans e);have n:aF s (x.pos+4)=(k.getD 0 0).toNat:=by have h1:lG s (x.pos+4) (k++(d++bQ (gQ (k++d)))):=i.right;exact h1.left.2 0 (by rw[j.1];omega)
 cases h with
 |done h1 h2=>exact absurd (ne (m:=rE) h2) l
 |VF h1 h2 b c f=>exact⟨_,f,c5,.inl ⟨ne (m:=DL) h2,b,rfl⟩⟩
 |VN h1 h2 b c=>exact⟨_,c,c5,.inr (.inl ⟨.inl (ne (m:=yt) h2),rfl⟩)⟩
 |VO h1 h2 b c f g=>exact⟨_,g,c5,.inr (.inl ⟨.inr (ne (m:=uM) h2),rfl⟩)⟩
 |other h1 h2 b c f g o=>
  refine⟨_,o,c5,.inr (.inr ⟨fun e=>b ?_,fun e=>c ?_,fun e=>f ?_,by rw[<-n];exact g,rfl⟩)⟩
  ·rw[c3,e];rfl
  ·rw[c3,e];rfl
  ·rw[c3,e];rfl
theorem Ia.last{s:ByteArray}{K D:Nat}{x y:PS}(h:Ia s K D x y)(a:lG s x.pos (qV rE [])):x.pos+12=s.size:=by
 obtain⟨c1,c2,c3,c4,c5⟩:=BC a ZC (by simp);have no:∀{m:List UInt8},fG s (x.pos+4) 4=(⟨m.toArray⟩:ByteArray)->rE=m:=fun e=>afE (c3.symm.trans e);cases h with
 |done h1 h2 b c d=>omega
 |VF h1 h2=>exact absurd (no (m:=DL) h2) (by decide)
 |VN h1 h2=>exact absurd (no (m:=yt) h2) (by decide)
 |VO h1 h2=>exact absurd (no (m:=uM) h2) (by decide)
 |other h1 h2=>exact absurd c3 h2
def afe:List (List UInt8×List UInt8)->List UInt8
 | []=>[]
 |c::l=>qV c.1 c.2++afe l
theorem afo(a b:List (List UInt8×List UInt8)):afe (a++b)=afe a++afe b:=by
 induction a with
 |nil=>rfl
 |cons x a c=>rw[nC,afe,c,afe,bI]
def afI(l:List (List UInt8×List UInt8)):Prop:=∀c∈l,isKind c.1/\c.2.length<=2147483647/\c.1≠rE
theorem Ia.reach{s:ByteArray}{K D:Nat}{y:PS}(l:List (List UInt8×List UInt8)):∀{x:PS},Ia s K D x y->afI l->lG s x.pos (afe l)->∃a,Ia s K D a y/\a.pos=x.pos+(afe l).length:=by
 induction l with
 |nil=>intro x h _ _;exact⟨x,h,rfl⟩
 |cons c l d=>intro x h hm b;obtain⟨e,f,g⟩:=hm c (zl ..);obtain⟨n,h1,h2,_⟩:=h.next b.left e f g;obtain⟨i,j,k⟩:=d h1 (fun c m=>hm c (lS _ m)) (by rw[h2];exact b.right);refine⟨i,j,?_⟩;rw[k,h2,afe,aK,dK]
theorem lG.over{s b:ByteArray}{p:Nat}{l:List UInt8}(h:lG b p l)(a:p+l.length<=s.size)(e:∀i,p<=i->i<p+l.length->aF s i=aF b i):lG s p l:=
 ⟨a,fun i hi=>by rw[e (p+i) (by omega) (by omega)];exact h.2 i hi⟩
theorem agm{s b:ByteArray}{p:Nat}(e:∀i,p<=i->i<p+4->aF s i=aF b i):bz s p=bz b p:=by unfold bz;rw[e p (by omega) (by omega),e (p+1) (by omega) (by omega),e (p+2) (by omega) (by omega),e (p+3) (by omega) (by omega)]
theorem agk{s:ByteArray}{p:Wk}(hH:ZR s p)(hp:p.Ok)(h:∀y,¬Ia s p.K p.D ps0 y):CY s 1048576 ⟨3,0,0,[]⟩:=by
 refine .dV (by omega) (by omega) (.inr ⟨?_,af5 hH.h0 ?_⟩)
 ·rw[hH.w,hH.h];have:p.W*p.H<=20*20:=bD hp.w2 hp.h2;omega
 ·rintro⟨y,a⟩;rw[hH.k,hH.d]at a;exact h y a
theorem agn{s:ByteArray}(h:¬H0 s):CY s 1048576 ⟨3,0,0,[]⟩:= .dV (by omega) (by omega) (.inl h)
end Pr
namespace Pr
open Rf Cr
open gI (dL b_ lV bQ bz gQ manyN rC zB Oh dw)
open Jo (one)
open lI (Bq)
open Ad (oM)
theorem Wk.Ok.agl{p:Wk}(h:p.Ok){s:ByteArray}(hH:ZR s p)(F:Nat->Nat)(hF:∀y,F y<=4)(size:Nat)(a:1<=size)(b:size<=65535)(ds:List (List UInt8))(c:ds.flatten=nR size (p.kJ F)){q x:Nat}{pl:ByteArray}{pb:Bool}
 (g:Ia s p.K p.D ps0 ⟨q,x,pl,⟨p.tr.toArray⟩,pb,decide (p.C≠[]),⟨ds.flatten.toArray⟩⟩) (m:p.K=3->pl=⟨(BF p.E).toArray⟩):
 ∃P1 st t P2 f,Way s P1 st t P2/\Oe s P1 st t=some f/\f.dQ=pU p.q (p.W*p.H):=by
 have n:=p.CZ F;rw[<-hH.k,<-hH.d]at g;obtain⟨P1,st,t,P2,j⟩:=abN hH.h0 g;have o:hSz s=(p.kJ F).length:=by unfold hSz;rw[hH.w,hH.h,hH.d,hH.k,hH.i,n,h.size F]
 have r:Ri p.K st ⟨(BF p.E).toArray⟩ ⟨p.tr.toArray⟩ (decide (p.C≠[])):=by have l:=j.says;rw[hH.k]at l;refine⟨fun e=> ?_,l.Zo,l.zZ⟩;have:=l.lU e;dsimp only at this;rw[m e]at this;exact this
 have u:WI (⟨ds.flatten.toArray⟩:ByteArray) (hSz s) (fun _=>True):=by rw[c];exact ZQ size _ a b _ o.symm
 have v:wU (⟨ds.flatten.toArray⟩:ByteArray) (hSz s)=⟨⟨8*(kQ size (p.kJ F).length (p.kJ F)).length,false⟩,p.kJ F⟩:=by rw[c];exact TG size _ a b _ (by omega)
 obtain⟨f,z,A,B⟩:=abO hH.h0 j u (dQ:=pU p.q (p.W*p.H)) (by dsimp only;rw[v];dsimp only;rw[p.Wh F hF];unfold Rl hIn;rw[hH.w,hH.h,hH.d,hH.k,hH.i];exact h.drawn r F hF)
 exact⟨P1,st,t,P2,f,z,A,B⟩
def afA(l:List (List UInt8×List UInt8)):Prop:=∀c∈l,isKind c.1/\c.2.length<=2147483647/\c.1≠uM/\97<=(c.1.getD 0 0).toNat
theorem afB{k:List UInt8}(h:97<=(k.getD 0 0).toNat):k≠rE/\k≠DL/\k≠yt:=by refine⟨fun e=> ?_,fun e=> ?_,fun e=> ?_⟩<;>rw[e]at h<;>revert h<;>decide
theorem afs{s:ByteArray}{K D:Nat}{y:PS}(l:List (List UInt8×List UInt8)):∀(x:PS),afA l->lG s x.pos (afe l)->
 Ia s K D ⟨x.pos+(afe l).length,if l=[]then x.jQ else if x.jQ=1 then 2 else x.jQ,x.pl,x.tr,x.pb,x.tb,x.da⟩ y->Ia s K D x y:=by
 induction l with
 |nil=>intro x _ _ h;exact h
 |cons c l f=>
  intro x hi a h;obtain⟨b,g,i,d⟩:=hi c (zl ..);obtain⟨c1,c2,c3,c4,c5⟩:=BC a.left b g;obtain⟨j,k,n⟩:=afB d;have ne:∀{m:List UInt8},c.1≠m->fG s (x.pos+4) 4≠(⟨m.toArray⟩:ByteArray):=fun o e=>o (afE (c3.symm.trans e));have p:aF s (x.pos+4)=(c.1.getD 0 0).toNat:=by have h1:lG s (x.pos+4) (c.1++(c.2++bQ (gQ (c.1++c.2)))):=a.left.right;exact h1.left.2 0 (by rw[b.1];omega)
  refine .other c1 (ne (m:=rE) j) (ne (m:=DL) k) (ne (m:=yt) n) (ne (m:=uM) i) (by rw[p];exact d) ?_;rw[c5];refine f ⟨x.pos+(qV c.1 c.2).length,if x.jQ=1 then 2 else x.jQ,x.pl,x.tr,x.pb,x.tb,x.da⟩ (fun c q=>hi c (lS _ q)) a.right ?_;dsimp only;rw[ax (by simp),afe,aK,<-dK]at h;have e:(if l=[]then(if x.jQ=1 then 2 else x.jQ)else if(if x.jQ=1 then 2 else x.jQ)=1 then 2 else(if x.jQ=1 then 2 else x.jQ))=(if x.jQ=1 then 2 else x.jQ):=by
   by_cases h1:x.jQ=1
   ·simp[h1]
   ·simp[h1]
  rw[e];exact h
theorem afX{s:ByteArray}{K D:Nat}{y:PS}(ds:List (List UInt8)):∀x:PS,lG s x.pos (nP ds)->x.jQ<=1->(K=3->x.pb=true)->(ds=[]->x.jQ=1)->(∀d∈ds,d.length<=2147483647)->
 Ia s K D ⟨x.pos+(nP ds).length,1,x.pl,x.tr,x.pb,x.tb,⟨(x.da.data.toList++ds.flatten).toArray⟩⟩ y->Ia s K D x y:=by
 induction ds with
 |nil=>
  intro x h j hK h1 _ i;have e:x=(⟨x.pos+(nP []).length,1,x.pl,x.tr,x.pb,x.tb,⟨(x.da.data.toList++([]:List (List UInt8)).flatten).toArray⟩⟩:PS):=by obtain⟨a,b,c,d,e,f,g⟩:=x;have:=h1 rfl;dsimp only at this|-;subst this;simp[nP]
  rw[e];exact i
 |cons d ds l=>intro x h j hK _ hd i;have k:=hd d (zl ..);rw[nP]at h;obtain⟨c1,c2,c3,c4,c5⟩:=BC (s:=s) (p:=x.pos) (kind:=DL) (data:=d) h.left ZA k;refine .VF c1 c3 j hK ?_;rw[c2,c4,c5,VY];refine l ⟨x.pos+(qV DL d).length,1,x.pl,x.tr,x.pb,x.tb,⟨(x.da.data.toList++d).toArray⟩⟩ h.right (ah _) hK (fun _=>rfl) (fun y i=>hd y (lS _ i)) ?_;dsimp only;rw[nP,aK,<-dK,List.flatten_cons,<-bI]at i;exact i
theorem af6{s:ByteArray}{p:Wk}(h:p.Ok){y:PS}(x:PS)(h1:x.jQ=0)(h2:x.tb=false)(o:x.tr=ByteArray.empty)(v:x.pb=false)(q:lG s x.pos p.oz)
 (l:Ia s p.K p.D ⟨x.pos+p.oz.length,0,if p.K=3 then⟨(BF p.E).toArray⟩else x.pl,⟨p.tr.toArray⟩,decide (p.K=3),decide (p.C≠[]),x.da⟩ y):Ia s p.K p.D x y:=by
 have n:∀(x:PS),x.jQ=0->x.tb=false->x.tr=ByteArray.empty->x.pb=decide (p.K=3)->(p.K=3->x.pl=⟨(BF p.E).toArray⟩)->lG s x.pos (if p.C=[]then []else qV uM p.tr)->
  Ia s p.K p.D ⟨x.pos+(if p.C=[]then []else qV uM p.tr).length,0,x.pl,⟨p.tr.toArray⟩,decide (p.K=3),decide (p.C≠[]),x.da⟩ y->Ia s p.K p.D x y:=by
  intro x h1 h2 r o v F l;by_cases k:p.C=[]
  ·have I:decide (p.C≠[])=false:=aS (by simp[k]);rw[aG k,Wk.ac_ k,I]at l;have e:x=(⟨x.pos+([]:List UInt8).length,0,x.pl,⟨([]:List UInt8).toArray⟩,decide (p.K=3),false,x.da⟩:PS):=by
    obtain⟨a,b,c,d,e,f,g⟩:=x;dsimp only at h1 h2 r o|-;subst h1 h2 r o;rfl
   rw[e];exact l
  ·rw[ax k,aZ k]at l;rw[ax k]at F;have J:=h.kinds;have G:p.K≠4/\p.K≠6:=⟨fun e=>k (h.c4 (.inl e)),fun e=>k (h.c4 (.inr e))⟩;have H:0<p.C.length:=List.length_pos_iff.2 k;have t:trD p.K p.D x ⟨p.tr.toArray⟩/\p.tr.length<=768:=by
    by_cases i:p.K=3
    ·obtain⟨z,w,L,M,N,O⟩:=h.e3 i;have m:p.tr.length=p.C.length:=by unfold Wk.tr;rw[aG i];simp
     refine⟨.inl ⟨i,by rw[o];simp[i],by rw[fF,m];omega,?_⟩,by omega⟩;rw[fF,m,v i,fF,qP];omega
    ·have A:p.K=0\/p.K=2:=by omega
     rcases h.c0 A with e|⟨z,w⟩
     ·exact absurd e k
     ·have m:p.tr.length=2*p.C.length:=by unfold Wk.tr;rw[ax i];exact TE _
      have u:zB p.K=aT p.K/\aT p.K<=4:=by rcases A with e|e<;>rw[e]<;>decide
      refine⟨.inr ⟨A,by rw[fF,m,z,u.1],fun j P=> ?_⟩,by omega⟩;rw[u.1]at P;have B:∀c∈p.C,c<65536:=fun c k=>aN (w c k) h.pow;rw[jg,jg];have:=ZK p.C j (by omega) B;unfold Wk.tr;rw[ax i,this];exact nT w (kS _) j
   refine ZJ p.tr F h1 h2 t.1 t.2 ?_;rw[h1,o];exact l
 unfold Wk.oz at q l;by_cases i:p.K=3
 ·rw[aG i,aG i]at l;rw[aG i]at q;obtain⟨z,w,L,M,N,O⟩:=h.e3 i;refine ZI (x:=x) (BF p.E) q.left ⟨h1,v,h2,by omega,by omega,by rw[qP];omega,by rw[qP];omega,by rw[qP];omega,fun _=> ?_⟩ (by rw[qP];omega) ?_
  ·rw[qP];show 3*p.E.length/3<=2^p.D;omega
  ·refine n _ h1 h2 o (by simp[i]) (fun _=>rfl) q.right ?_;rw[aK,<-dK]at l;exact l
 ·rw[ax i,ax i,yD]at l;rw[ax i,yD]at q;exact n x h1 h2 o (by rw[v,aS i]) (fun e=>absurd e i) q l
def Wk.afn(p:Wk)(ds:List (List UInt8))(a b c:List (List UInt8×List UInt8)):List UInt8:=zN++(qV tX (mg p.W p.H p.D p.K (if p.I=true then 1 else 0))++(afe a++(p.oz++(afe b++(nP ds++(afe c++qV rE []))))))
theorem Wk.agr(p:Wk)(ds:List (List UInt8)):p.afn ds [] [] []=p.text ds:=by unfold Wk.afn Wk.text afe;simp
theorem afJ{p:Wk}(h:p.Ok)(F:Nat->Nat)(size:Nat){ds:List (List UInt8)}(a:ds.flatten=nR size (p.kJ F)):∀d∈ds,d.length<=2147483647:=fun d hd=>by have h1:=ZU hd;have h2:=OI h F size;rw[a]at h1;omega
theorem Wk.Ok.af7{p:Wk}(h:p.Ok)(F:Nat->Nat)(hF:∀y,F y<=4)(size:Nat)(g:1<=size)(i:size<=65535)(ds:List (List UInt8))(j:ds≠[])(d:ds.flatten=nR size (p.kJ F))(a b c:List (List UInt8×List UInt8))(A:afA a)(hb:afA b)(B:afA c):
 CY ⟨(p.afn ds a b c).toArray⟩ 1048576 ⟨0,p.W,p.H,pU p.q (p.W*p.H)⟩:=by
 obtain⟨s,n⟩:∃s:ByteArray,s=⟨(p.afn ds a b c).toArray⟩:=⟨_,rfl⟩;rw[<-n];obtain⟨hH,o,G⟩:=aeR h n;have r:=o.right;have u:=r.right;have v:=u.right;have x:=v.right;have I:=x.right;obtain⟨c1,c2,c3,c4,c5⟩:=BC I ZC (by simp);have key:∃q z pl,Ia s p.K p.D ps0 ⟨q,z,pl,⟨p.tr.toArray⟩,decide (p.K=3),decide (p.C≠[]),⟨ds.flatten.toArray⟩⟩/\(p.K=3->pl=⟨(BF p.E).toArray⟩):=by
  refine⟨33+(afe a).length+p.oz.length+(afe b).length+(nP ds).length+(afe c).length,if c=[]then 1 else 2,if p.K=3 then⟨(BF p.E).toArray⟩else ps0.pl,?_,fun e=>aG e⟩;refine afs a ps0 A o.left ?_;rw[show(if a=[]then ps0.jQ else if ps0.jQ=1 then 2 else ps0.jQ)=0 by split<;>rfl];refine af6 h _ rfl rfl rfl rfl r.left ?_;refine afs b _ hb u.left ?_;refine afX ds _ v.left ?_ ?_ (fun e=>absurd e j) (afJ h F size d) ?_
  ·dsimp only;split<;>simp
  ·intro e;simp[e]
  refine afs c _ B x.left ?_;dsimp only;refine .done c1 c3 ?_ c2 ?_
  ·dsimp only;split<;>simp
  ·dsimp only;rw[<-G];simp only[List.length_append,l_];have J:rE.length=4:=rfl;have k:ps0.pos=33:=rfl;simp only[List.length_nil,J,k];omega
 obtain⟨q,z,pl,l,m⟩:=key;obtain⟨P1,st,t,P2,f,L,M,N⟩:=h.agl hH F hF size g i ds d l m;have h1:p.W*p.H<=20*20:=bD h.w2 h.h2;have:=CY.ok (b:=s) (limit:=1048576) (by omega) (by omega) L (by rw[hH.w,hH.h];omega) M;rw[hH.w,hH.h,N]at this;exact this
def Wk.afK(p:Wk):List (List UInt8×List UInt8):=(if p.K=3 then [(yt,BF p.E)]else [])++(if p.C=[]then []else [(uM,p.tr)])
theorem Wk.aft(p:Wk):afe p.afK=p.oz:=by
 unfold Wk.afK Wk.oz;rw[afo];congr 1
 ·split
  ·simp[afe]
  ·rfl
 ·split
  ·rfl
  ·simp[afe]
def afL(ds:List (List UInt8)):List (List UInt8×List UInt8):=ds.map fun d=>(DL,d)
theorem afM(ds:List (List UInt8)):afe (afL ds)=nP ds:=by
 induction ds with
 |nil=>rfl
 |cons d ds a=>show qV DL d++afe (afL ds)=_;rw[a];rfl
theorem Wk.Ok.afF{p:Wk}(h:p.Ok):afI p.afK:=by
 intro c a;unfold Wk.afK at a;rcases List.mem_append.1 a with a|a
 ·split at a
  ·rename_i b;rw[List.mem_singleton.1 a];obtain⟨d,e,f,g,i,j⟩:=h.e3 b;exact⟨ZE,by show(BF p.E).length<=_;rw[qP];omega,show yt≠rE by decide⟩
  ·cases a
 ·split at a
  ·cases a
  ·rw[List.mem_singleton.1 a];exact⟨ZF,by have:=h.adW;show p.tr.length<=_;omega,show uM≠rE by decide⟩
theorem afV{ds:List (List UInt8)}(h:∀d∈ds,d.length<=2147483647):afI (afL ds):=by intro c a;obtain⟨d,hd,rfl⟩:=List.mem_map.1 a;exact⟨ZA,h d hd,show DL≠rE by decide⟩
theorem afI.app{a b:List (List UInt8×List UInt8)}(d:afI a)(hb:afI b):afI (a++b):=fun c e=>(List.mem_append.1 e).elim (d c) (hb c)
end Pr
namespace Pr
open Rf Cr
open gI (bQ bz gQ rC lets dw)
theorem Wk.Ok.afx{p:Wk}(h:p.Ok)(l:List (List UInt8×List UInt8))(hm:afI l)(m:List UInt8)(a:∀(s:ByteArray) (x y:PS),lG s x.pos m->x.pos+m.length=s.size->¬Ia s p.K p.D x y):
 CY ⟨(zN++(qV tX (mg p.W p.H p.D p.K (if p.I=true then 1 else 0))++(afe l++m))).toArray⟩ 1048576 ⟨3,0,0,[]⟩:=by
 obtain⟨s,b⟩:∃s:ByteArray,s=⟨(zN++(qV tX (mg p.W p.H p.D p.K (if p.I=true then 1 else 0))++(afe l++m))).toArray⟩:=⟨_,rfl⟩;rw[<-b];obtain⟨hH,c,d⟩:=aeR h b;refine agk hH h (fun y e=> ?_);obtain⟨f,h1,h2⟩:=e.reach l hm c.left;refine a s f y (by rw[h2];exact c.right) ?_ h1;rw[h2,<-d,aK];have:ps0.pos=33:=rfl;omega
theorem age{s:ByteArray}{K D:Nat}{x y:PS}{k d r:List UInt8}(a:isKind k)(hd:d.length<=2147483647)(h0:k.getD 0 0=90)(b:lG s x.pos (qV k d++r)):¬Ia s K D x y:=by
 intro h;have ne:k≠rE/\k≠DL/\k≠yt/\k≠uM:=by refine⟨fun e=> ?_,fun e=> ?_,fun e=> ?_,fun e=> ?_⟩<;>rw[e]at h0<;>revert h0<;>decide
 obtain⟨f,_,_,c⟩:=h.next b.left a hd ne.1;rcases c with⟨e,_⟩|⟨e|e,_⟩|⟨_,_,_,e,_⟩
 ·exact ne.2.1 e
 ·exact ne.2.2.1 e
 ·exact ne.2.2.2 e
 ·rw[h0]at e;revert e;decide
theorem af8{s:ByteArray}{K D:Nat}{x y:PS}{k d r:List UInt8}(e:k.length=4)(h2:k.getD 2 0=113)(b:lG s x.pos (qV k d++r)):¬Ia s K D x y:=by intro h;have a:=h.ch.2.2.2.1 2 (by omega);have h1:lG s (x.pos+4) (k++(d++bQ (gQ (k++d)))):=b.left.right;have c:=h1.left.2 2 (by omega);rw[c,h2]at a;revert a;decide
theorem agf{s:ByteArray}{K D:Nat}{x y:PS}(b:lG s x.pos (qV rE []++[0]))(a:x.pos+(qV rE []++[0]).length=s.size):¬Ia s K D x y:=by intro h;have:=h.last b.left;rw[aK,l_]at a;have c:rE.length=4:=rfl;simp at a;omega
theorem afQ{s:ByteArray}{K D:Nat}{x y:PS}{k d f d1 r:List UInt8}(j:isKind k)(hd:d.length<=2147483647)(a:f.length<=2147483647)(b:d1.length<=2147483647)(l:97<=(k.getD 0 0).toNat)(m:k≠uM)(g:lG s x.pos (qV DL f++(qV k d++(qV DL d1++r)))):¬Ia s K D x y:=by
 intro h;obtain⟨n,o,p⟩:=afB l;obtain⟨q,t,u,v⟩:=h.next g.left ZA a (by decide);have s1:q.jQ=1:=by
  rcases v with⟨_,_,e⟩|⟨e|e,_⟩|⟨e,_⟩
  ·exact e
  ·exact absurd e (by decide)
  ·exact absurd e (by decide)
  ·exact absurd rfl e
 have c:=g.right;rw[<-u]at c;obtain⟨w,z,A,B⟩:=t.next c.left j hd n;have s2:w.jQ=2:=by
  rcases B with⟨e,_⟩|⟨e|e,_⟩|⟨_,_,_,_,e⟩
  ·exact absurd e o
  ·exact absurd e p
  ·exact absurd e m
  ·rw[e,aG s1]
 have i:=c.right;rw[<-A]at i;obtain⟨E,_,_,C⟩:=z.next i.left ZA b (by decide);rcases C with⟨_,e,_⟩|⟨e|e,_⟩|⟨e,_⟩
 ·omega
 ·exact absurd e (by decide)
 ·exact absurd e (by decide)
 ·exact absurd rfl e
end Pr
namespace Kp
open Rf Cr
open Pr
open gI (bQ bz gQ rC)
theorem afk(s:ByteArray):s.data.toList.length=s.size:=by simp
def aff(p:Wk):List UInt8:=qV tX (mg p.W p.H p.D p.K (if p.I=true then 1 else 0))
theorem afq(p:Wk):tZ (if p.oz=[]then []else [(⟨p.oz.toArray⟩:ByteArray)])=p.oz:=by
 by_cases h:p.oz=[]
 ·rw[aG h,h];rfl
 ·rw[ax h];simp[tZ]
theorem afl(ds:List (List UInt8)):tZ (ds.map Dh)=nP ds:=by
 induction ds with
 |nil=>rfl
 |cons d ds a=>rw[List.map_cons,tZ,a,nP];simp[Dh]
theorem afg(p:Wk)(ds:List (List UInt8)):(kC p ds).length=1+(if p.oz=[]then 0 else 1)+ds.length+1:=by unfold kC;by_cases h:p.oz=[]<;>simp[h]<;>omega
end Kp
namespace Kp
open Rf Cr
open Pr
open gI (bQ bz gQ rC lets dw)
theorem agh(A B:List ByteArray)(t:ByteArray):(A++B).take A.length++t::(A++B).drop A.length=A++t::B:=by simp
theorem afu(A B:List ByteArray)(t:ByteArray):tZ ((A++B).take A.length++t::(A++B).drop A.length)=tZ A++(t.data.toList++tZ B):=by rw[agh,BI,tZ]
def afj(p:Wk)(ds:List (List UInt8))(i:Nat)(t:ByteArray):List UInt8:=tZ ((kC p ds).take i++t::(kC p ds).drop i)
theorem afW(p:Wk)(ds:List (List UInt8))(t:ByteArray):afj p ds 1 t=zN++(aff p++(t.data.toList++(p.oz++(nP ds++qV rE [])))):=by have h:=afu [⟨(zN++aff p).toArray⟩] ((if p.oz=[]then []else [⟨p.oz.toArray⟩])++(ds.map Dh++[⟨(qV rE []).toArray⟩])) t;refine Eq.trans h ?_;rw[BI,BI,afq,afl];simp[tZ]
theorem afC(p:Wk)(ds:List (List UInt8))(t:ByteArray):afj p ds (1+(if p.oz=[]then 0 else 1)) t=zN++(aff p++(p.oz++(t.data.toList++(nP ds++qV rE [])))):=by have h:=afu (⟨(zN++aff p).toArray⟩::(if p.oz=[]then []else [⟨p.oz.toArray⟩])) (ds.map Dh++[⟨(qV rE []).toArray⟩]) t;rw[show(⟨(zN++aff p).toArray⟩::(if p.oz=[]then []else [(⟨p.oz.toArray⟩:ByteArray)])).length=1+(if p.oz=[]then 0 else 1)by by_cases h:p.oz=[]<;>simp[h]]at h;refine Eq.trans h ?_;rw[tZ,BI,afq,afl];simp[tZ]
theorem afN(p:Wk)(ds:List (List UInt8))(t:ByteArray):afj p ds ((kC p ds).length-1) t=zN++(aff p++(p.oz++(nP ds++(t.data.toList++qV rE [])))):=by
 have h:=afu (⟨(zN++aff p).toArray⟩::((if p.oz=[]then []else [⟨p.oz.toArray⟩])++ds.map Dh)) [⟨(qV rE []).toArray⟩] t;rw[show(⟨(zN++aff p).toArray⟩::((if p.oz=[]then []else [(⟨p.oz.toArray⟩:ByteArray)])++ds.map Dh)).length=(kC p ds).length-1 by rw[afg];by_cases h:p.oz=[]<;>simp[h]<;>omega]at h;have e:(⟨(zN++aff p).toArray⟩::((if p.oz=[]then []else [(⟨p.oz.toArray⟩:ByteArray)])++ds.map Dh))++[⟨(qV rE []).toArray⟩]=kC p ds:=by unfold kC aff;simp
 rw[e]at h;refine Eq.trans h ?_;rw[tZ,BI,afq,afl];simp[tZ]
theorem afO(p:Wk)(a:List UInt8)(ds:List (List UInt8))(t:ByteArray):afj p (a::ds) (1+(if p.oz=[]then 0 else 1)+1) t=zN++(aff p++(p.oz++(qV DL a++(t.data.toList++(nP ds++qV rE []))))):=by
 have h:=afu (⟨(zN++aff p).toArray⟩::((if p.oz=[]then []else [⟨p.oz.toArray⟩])++[Dh a])) (ds.map Dh++[⟨(qV rE []).toArray⟩]) t;rw[show(⟨(zN++aff p).toArray⟩::((if p.oz=[]then []else [(⟨p.oz.toArray⟩:ByteArray)])++[Dh a])).length=1+(if p.oz=[]then 0 else 1)+1 by by_cases h:p.oz=[]<;>simp[h]]at h;have e:(⟨(zN++aff p).toArray⟩::((if p.oz=[]then []else [(⟨p.oz.toArray⟩:ByteArray)])++[Dh a]))++(ds.map Dh++[⟨(qV rE []).toArray⟩])=kC p (a::ds):=by unfold kC aff;simp
 rw[e]at h;refine Eq.trans h ?_;rw[tZ,BI,afq,BI,afl];simp[tZ,Dh]
def afh(p:Wk)(ds:List (List UInt8))(i:Nat):Prop:=i=1\/i=1+(if p.oz=[]then 0 else 1)\/i=(kC p ds).length-1
theorem agp(t:ByteArray):(⟨t.data.toList.toArray⟩:ByteArray)=t:=TI t
theorem afY{p:Wk}(h:p.Ok)(F:Nat->Nat)(hF:∀y,F y<=4)(size:Nat)(b:1<=size)(f:size<=65535)(ds:List (List UInt8))(g:ds≠[])(j:ds.flatten=nR size (p.kJ F))(i:Nat)(hi:afh p ds i)(k d:List UInt8)(n:isKind k)(hd:d.length<=2147483647)(o:k≠uM)(h0:97<=(k.getD 0 0).toNat):
 CY ⟨(afj p ds i ⟨(qV k d).toArray⟩).toArray⟩ 1048576 ⟨0,p.W,p.H,pU p.q (p.W*p.H)⟩:=by
 have one:afA [(k,d)]:=fun c m=>by rw[List.mem_singleton.1 m];exact⟨n,hd,o,h0⟩
 have a:afA []:=fun c m=>absurd m (by simp);rcases hi with e|e|e
 ·have:=h.af7 F hF size b f ds g j [(k,d)] [] [] one a a;rw[e,afW];have l:p.afn ds [(k,d)] [] []=zN++(aff p++((⟨(qV k d).toArray⟩:ByteArray).data.toList++(p.oz++(nP ds++qV rE [])))):=by unfold Wk.afn aff;simp[afe]
  rw[<-l];exact this
 ·have:=h.af7 F hF size b f ds g j [] [(k,d)] [] a one a;rw[e,afC];have l:p.afn ds [] [(k,d)] []=zN++(aff p++(p.oz++((⟨(qV k d).toArray⟩:ByteArray).data.toList++(nP ds++qV rE [])))):=by unfold Wk.afn aff;simp[afe]
  rw[<-l];exact this
 ·have:=h.af7 F hF size b f ds g j [] [] [(k,d)] a a one;rw[e,afN];have l:p.afn ds [] [] [(k,d)]=zN++(aff p++(p.oz++(nP ds++((⟨(qV k d).toArray⟩:ByteArray).data.toList++qV rE [])))):=by unfold Wk.afn aff;simp[afe]
  rw[<-l];exact this
theorem afP{p:Wk}(h:p.Ok)(ds:List (List UInt8))(f:∀d∈ds,d.length<=2147483647)(i:Nat)(hi:afh p ds i)(t:List UInt8)(a:∀(s:ByteArray) (x y:PS) (r:List UInt8),lG s x.pos (t++r)->¬Ia s p.K p.D x y):
 CY ⟨(afj p ds i ⟨t.toArray⟩).toArray⟩ 1048576 ⟨3,0,0,[]⟩:=by
 rcases hi with e|e|e
 ·have:=h.afx [] (fun c g=>absurd g (by simp)) (t++(p.oz++(nP ds++qV rE []))) (fun s x y b _=>a s x y _ b);rw[e,afW];simpa [aff,afe]using this
 ·have:=h.afx p.afK h.afF (t++(nP ds++qV rE [])) (fun s x y b _=>a s x y _ b);rw[e,afC];rw[p.aft]at this;exact this
 ·have:=h.afx (p.afK++afL ds) (h.afF.app (afV f)) (t++qV rE []) (fun s x y b _=>a s x y _ b);rw[e,afN];rw[afo,p.aft,afM,bI]at this;exact this
theorem afZ{p:Wk}(h:p.Ok)(ds:List (List UInt8))(a:∀d∈ds,d.length<=2147483647)(i:Nat)(hi:afh p ds i)(k d:List UInt8)(b:isKind k)(hd:d.length<=2147483647)(h0:k.getD 0 0=90):
 CY ⟨(afj p ds i ⟨(qV k d).toArray⟩).toArray⟩ 1048576 ⟨3,0,0,[]⟩:=afP h ds a i hi _ fun s x y r c=>age b hd h0 c
theorem afR{p:Wk}(h:p.Ok)(ds:List (List UInt8))(a:∀d∈ds,d.length<=2147483647)(i:Nat)(hi:afh p ds i)(k d:List UInt8)(b:k.length=4)(h2:k.getD 2 0=113):
 CY ⟨(afj p ds i ⟨(qV k d).toArray⟩).toArray⟩ 1048576 ⟨3,0,0,[]⟩:=afP h ds a i hi _ fun s x y r c=>af8 b h2 c
theorem af0{p:Wk}(h:p.Ok)(ds:List (List UInt8))(a:∀d∈ds,d.length<=2147483647):CY ⟨(p.text ds++[0]).toArray⟩ 1048576 ⟨3,0,0,[]⟩:=by
 have:=h.afx (p.afK++afL ds) (h.afF.app (afV a)) (qV rE []++[0]) (fun s x y b c=>agf b c);rw[afo,p.aft,afM,bI]at this;have e:p.text ds++[0]=zN++(qV tX (mg p.W p.H p.D p.K (if p.I=true then 1 else 0))++(p.oz++(nP ds++(qV rE []++[0])))):=by unfold Wk.text;simp
 rw[e];exact this
theorem afG{p:Wk}(h:p.Ok)(ds:List (List UInt8))(b:∀d∈ds,d.length<=2147483647)(c:2<=ds.length)(k d:List UInt8)(f:isKind k)(hd:d.length<=2147483647)(g:k≠uM)(h0:97<=(k.getD 0 0).toNat):
 CY ⟨(afj p ds (1+(if p.oz=[]then 0 else 1)+1) ⟨(qV k d).toArray⟩).toArray⟩ 1048576 ⟨3,0,0,[]⟩:=by
 obtain⟨a,d1,r,rfl⟩:∃a d1 r,ds=a::d1::r:=by
  match ds,c with
  |a::d1::r,_=>exact⟨a,d1,r,rfl⟩
  | [_],h=>simp at h
  | [],h=>simp at h
 have:=h.afx p.afK h.afF (qV DL a++(qV k d++(qV DL d1++(nP r++qV rE [])))) (fun s x y i _=>afQ f hd (b a (by simp)) (b d1 (by simp)) h0 g i);rw[afO];rw[p.aft]at this;have e:nP (d1::r)++qV rE []=qV DL d1++(nP r++qV rE []):=by rw[nP];simp
 rw[e];exact this
end Kp
namespace Kp
open Go.RowKit Rf Cr
open Pr
theorem afy{wr:af}{ops:Array Oper}{rest:List Oper}{o:Oper}{a:Act}{Q:Exit->Act->af->Prop}(e:o.guard=none)(s x:Operand)
 (r:o.op= .call {callee:= .builtin .append,args:= #[s,x],argTypes:= #[60,60]}) (base:Nat) (v:ay) (n:Nat) (xs:List ay) (g p m c:Nat) (L:List ByteArray)
 (b:wr.ownsRow base 9 1 v n xs) (h2:∀j,j<m->wr.cell? ⟨g,p+j,none⟩=some (.string (L.getD j ByteArray.empty))) (A:L.length=m) (t:a.eval s=v) (w:a.eval x= .slice (some ⟨g,p,none⟩) m c) (B:n+m<=1000) (hb:base<=wr.heap.size)
 (h:∀v' w',w'.ownsRow base 9 1 v' (n+m) (xs++nJ L)->wr.grownBy w' v.ownBlock->wpList prog ops Q rest (a.put o.dst v') w'):
 wpList prog ops Q (o::rest) a wr:=by
 obtain⟨y,hi,f,i,k⟩:=info_parts TK;refine wpList_append_own _ e s x 60 r base 9 y (.string ⟨#[]⟩) 1 16 underlying60 hi f i k rfl (by decide) v n xs t b ⟨g,p,none⟩ m c (nJ L) w ?_ ?_ ?_ ?_ ?_ ?_ ?_
 ·rw[aai];omega
 ·intro j u l;have d:j<(nJ L).length:=by
   rcases bW j (nJ L).length with q|q
   ·exact q
   ·rw[dD q]at l;cases l
  rw[aai]at d;rw[<-l,Addr.add_mid,h2 j (by omega)];simp[nJ,d,List.getD_eq_getElem?_getD]
 ·intro u hu;obtain⟨z,_,rfl⟩:=List.mem_map.1 hu;rfl
 ·unfold maxLen;omega
 ·omega
 ·exact hb
 ·intro v' w' h1 h2 C;exact h v' w' h1 h2
theorem af1{w:af}{base g n cap:Nat}{L:List ByteArray}(h:w.ownsRow base 9 1 (.slice (some ⟨g,0,none⟩) n cap) n (nJ L)):L.length=n/\g<w.heap.size/\n<=cap/\∀j,j<n->w.cell? ⟨g,j,none⟩=some (.string (L.getD j ByteArray.empty)):=by
 have a:L.length=n:=by have:=h.1;rw[aai]at this;omega
 refine⟨a,(h.lt g rfl).2,?_,fun j b=> ?_⟩
 ·rcases h.2 with⟨e,h0⟩|⟨c,d,cur,e,_,_,f,_⟩
  ·cases e
  ·injection e with _ _ e3
   omega
 ·rw[h.cellAt j (by omega)];simp[nJ,a,b,List.getD_eq_getElem?_getD]
theorem afS(L:List ByteArray)(g n cap base i:Nat)(s:ByteArray)(w:af)(B:w.ownsRow base 9 1 (.slice (some ⟨g,0,none⟩) n cap) n (nJ L))(H:1<=i)(I:i<n)(O:n<=900):
 aH prog 38 #[.slice (some ⟨g,0,none⟩) n cap,.int .i64 (i:Int),.string s] w fun e w'=> ∃v,e= .returned v/\w'.ownsRow w.heap.size 9 1 v (n+1) (nJ (L.take i++s::L.drop i))/\aA w.heap.size w w':=by
 obtain⟨C,J,D,E⟩:=af1 B;have F:au (∀wx,aA w.heap.size w wx->∀j,j<n->wx.cell? ⟨g,j,none⟩=some (.string (L.getD j ByteArray.empty))):=(fun wx hb j x=>(hb.cell (p:=⟨g,j,none⟩) J).trans (E j x):∀wx,_);have K:(i:Int)<=(cap:Int):=by omega
 have M:(i:Int)<=(n:Int):=by omega
 have G:au _:=C;clear B E C;go_enter func38,ntmps38
 go_upto_region 3 with(first
  |(at_builtin;refine afy rfl _ _ rfl w.heap.size _ 0 [] g 0 i _ (L.take i) (eX _ _ _ _) (by intro j x;rw[fQ,F.out w (aV _ _) j (by omega),ag,ag,dh x]) (by rw[eH,G.out];omega) rfl rfl (by omega) (ah _) ?_;intro v1 w1 a q;rw[fQ,yD]at a;obtain⟨P,c1,rfl⟩:=y_ a (by omega)))
 have d:au (aA w.heap.size w w1):=((aV w.heap.size w).grown q (ah _) (fun k y=>by simp[Value.ownBlock]at y):aA _ _ _);have f:au _:=a;have b:=d.out.size;clear a q
 go_upto_region 4 with(first
  |(at_builtin;refine t_ rfl _ _ rfl w.heap.size _ i _ s f.out rfl rfl (by omega) b ?_;intro v2 w2 l r;obtain⟨Q,c2,rfl⟩:=y_ l (by omega)))
 have m:au (aA w.heap.size w w2):=(lI.mW d.out (ah _) b f.out r:aA _ _ _);have t:au _:=l;have c:=m.out.size;clear l r f d
 go_wp2_with (first
  |(at_builtin;refine afy rfl _ _ rfl w.heap.size _ (i+1) _ g i (n-i) _ (L.drop i) t.out (by intro j x;rw[F.out w2 m.out (i+j) (by omega),ag,ag,gJ]) (by rw[jm,G.out]) rfl rfl (by omega) c ?_;intro R w3 o u;obtain⟨N,c3,rfl⟩:=y_ o (by omega)))
 have z:au (aA w.heap.size w w3):=(m.out.grown u c (fun k y=>(World.ownsRow.lt t.out k y).1):aA _ _ _);have A:au (w3.ownsRow w.heap.size 9 1 (.slice (some ⟨N,0,none⟩) (i+1+(n-i)) c3) (n+1) (nJ (L.take i++s::L.drop i))):=(by
  have h:=o;rw[show i+1+(n-i)=n+1 by omega]at h|-;have e:nJ (L.take i++s::L.drop i)=nJ (L.take i)++[.string s]++nJ (L.drop i):=by simp[nJ]
  rw[e];exact h:World.ownsRow _ _ _ _ _ _ _)
 clear o u;go_wp2_with fail
 go_ret;exact⟨_,rfl,A.out,z.out⟩
open gI (bQ gQ fO)
theorem afT(kind data:ByteArray)(w:af)(u:Ci w)(b:4<w.heap.size)(A:kind.size=4)(hd:data.size<=100000000):
 aH prog 35 #[.string kind,.string data] w fun e w'=>e= .returned (.string ⟨(qV kind.data.toList data.data.toList).toArray⟩)/\aA w.heap.size w w':=by
 obtain⟨n,j⟩:∃n,n=data.size:=⟨_,rfl⟩;obtain⟨c,g⟩:∃c,c=gQ (kind++data).data.toList:=⟨_,rfl⟩;have k:c<4294967296:=by rw[g];exact fO _
 have l:au _:=fun w'=>yw n w' (by omega);have m:au _:=fun w'=>yw c w' k;have o:au (∀w',Ci w'->aH prog 70 #[.string (kind++data)] w' fun e w2=>e= .returned (.int .u32 (c:Int))/\w2=w'):=(fun w' h=>by rw[g];exact aa8 (kind++data) w' (by rw[gX];unfold maxLen;omega) h:∀w',_)
 have x:(⟨(bQ n).toArray⟩:ByteArray).size=4:=rfl;have y:(⟨(bQ c).toArray⟩:ByteArray).size=4:=rfl;have v:au ((⟨(qV kind.data.toList data.data.toList).toArray⟩:ByteArray)=(⟨(bQ n).toArray⟩:ByteArray)++kind++data++(⟨(bQ c).toArray⟩:ByteArray)):=(by rw[g,j];apply gK;simp[qV]:_=_)
 have q:au (Ci w):=(u:Ci w);have r:au (4<w.heap.size):=(b:_<_);have z:(data.size:Int)=(n:Int):=by rw[j]
 rw[<-j]at hd;rw[v.out];clear v g u b;generalize (⟨(bQ n).toArray⟩:ByteArray)=X at*;generalize (⟨(bQ c).toArray⟩:ByteArray)=Y at*;go_enter func35,ntmps35
 go_wp2_with fail
 refine aU (l.out _) ?_;rintro e w1 ⟨rfl,a⟩;have s:au (Ci w1):=(fun i hi=>(a.cell (p:=⟨4,i,none⟩) r.out).trans (q.out i hi):Ci w1);have d:au _:=a;clear a;go_wp2_with fail
 refine aU (o.out _ s.out) ?_;rintro e w2 ⟨rfl,rfl⟩;go_wp2_with fail
 refine aU (m.out _) ?_;rintro e w3 ⟨rfl,f⟩;have t:au _:=d.out.trans (f.mono d.out.size);clear f;go_wp2_with fail
 go_ret;exact⟨rfl,t.out⟩
end Kp
namespace Kp
open Go.RowKit Rf Cr
open Pr
open gI (bQ gQ dw)
theorem afr{w:af}{base gb cap a b c d:Nat}(h:w.ownsRow base 5 1 (.slice (some ⟨gb,0,none⟩) 4 cap) 4 (kF [a,b,c,d]))(g:a<256)(hb:b<256)(j:c<256)(hd:d<256):
 ∃K:ByteArray,K.size=4/\K.data.toList=[UInt8.ofNat a,UInt8.ofNat b,UInt8.ofNat c,UInt8.ofNat d]/\(convert 45 9 (.slice (some ⟨gb,0,none⟩) 4 cap)).run prog w= .ok (.string K) w:=by
 refine⟨⟨[UInt8.ofNat a,UInt8.ofNat b,UInt8.ofNat c,UInt8.ofNat d].toArray⟩,rfl,rfl,?_⟩;refine Oz w gb 4 cap [UInt8.ofNat a,UInt8.ofNat b,UInt8.ofNat c,UInt8.ofNat d] rfl (fun i hi=> ?_);have f:i<4:=hi;rw[h.cellAt i (by omega)];have e:∀n:Nat,n<256->(((UInt8.ofNat n).toNat:Nat):Int)=(n:Int):=fun n k=>by rw[dB];omega
 match i,f with
 |0,_=>show some (Value.int .u8 (a:Int))=some (.int .u8 (((UInt8.ofNat a).toNat:Nat):Int));rw[e a g]
 |1,_=>show some (Value.int .u8 (b:Int))=some (.int .u8 (((UInt8.ofNat b).toNat:Nat):Int));rw[e b hb]
 |2,_=>show some (Value.int .u8 (c:Int))=some (.int .u8 (((UInt8.ofNat c).toNat:Nat):Int));rw[e c j]
 |3,_=>show some (Value.int .u8 (d:Int))=some (.int .u8 (((UInt8.ofNat d).toNat:Nat):Int));rw[e d hd]
theorem afm(n:Nat)(h:n<256):(UInt8.ofNat n).toNat=n:=by rw[dB];omega
theorem afz(n i:Nat)(h:65<=n/\n<=90):dw (UInt8.ofNat n).toNat i=true:=by rw[afm n (by omega)];unfold dw;simp;omega
theorem afi(n i:Nat)(h:97<=n/\n<=122)(hi:i≠2):dw (UInt8.ofNat n).toNat i=true:=by rw[afm n (by omega)];unfold dw;simp;omega
theorem afH(a b c d:Nat)(e:(65<=a/\a<=90)\/(97<=a/\a<=122))(hb:97<=b/\b<=122)(f:65<=c/\c<=90)(hd:97<=d/\d<=122):isKind [UInt8.ofNat a,UInt8.ofNat b,UInt8.ofNat c,UInt8.ofNat d]:=by
 refine⟨rfl,fun i hi=> ?_⟩;match i,hi with
 |0,_=>exact e.elim (fun h=>afz a 0 h) (fun h=>afi a 0 h (by decide))
 |1,_=>exact afi b 1 hb (by decide)
 |2,_=>exact afz c 2 f
 |3,_=>exact afi d 3 hd (by decide)
theorem afD(a b c d:Nat)(hb:97<=b/\b<=122):[UInt8.ofNat a,UInt8.ofNat b,UInt8.ofNat c,UInt8.ofNat d]≠uM:=fun e=>by have h:(UInt8.ofNat b).toNat=82:=jo (fun l:List UInt8=>(l.getD 1 0).toNat) e;rw[afm b (by omega)]at h;omega
theorem af9(p:Wk)(ds:List (List UInt8))(i:Nat)(t:ByteArray):(afj p ds i t).length=(p.text ds).length+t.size:=by unfold afj;rw[BI,tZ,<-BJ,<-nS i (kC p ds),BI];rw[nS];simp only[List.length_append];rw[afk];omega
theorem af_{w:af}{base n:Nat}{la:Option bG}{cap:Nat}{xs:List ay}(h:w.ownsRow base 9 1 (.slice la n cap) n xs):n<=cap:=by
 rcases h.2 with⟨e,h0⟩|⟨g,a,cur,e,_,_,b,_⟩
 ·omega
 ·injection e with _ _ e3
  omega
theorem aga{p:Wk}(h:p.Ok)(F:Nat->Nat)(hF:∀y,F y<=4)(size:Nat)(n:1<=size)(o:size<=65535)(ds:List (List UInt8))(r:ds≠[])(l:ds.flatten=nR size (p.kJ F))(P:Nat)(s:afh p ds P)(j c k d:Nat)(t:97<=j/\j<=122)(b:97<=c/\c<=122)(m:65<=k/\k<=90)(f:97<=d/\d<=122)(a:ByteArray)(hd:a.size<=2147483647):
 (∀K C:ByteArray,K.data.toList=[UInt8.ofNat j,UInt8.ofNat c,UInt8.ofNat k,UInt8.ofNat d]->C=⟨(qV K.data.toList a.data.toList).toArray⟩->CY ⟨(afj p ds P C).toArray⟩ 1048576 ⟨0,p.W,p.H,pU p.q (p.W*p.H)⟩)/\
 (∀K C:ByteArray,K.data.toList=[UInt8.ofNat 90,UInt8.ofNat c,UInt8.ofNat k,UInt8.ofNat d]->C=⟨(qV K.data.toList a.data.toList).toArray⟩->CY ⟨(afj p ds P C).toArray⟩ 1048576 ⟨3,0,0,[]⟩)/\
 (∀K C:ByteArray,K.data.toList=[UInt8.ofNat 122,UInt8.ofNat c,UInt8.ofNat 113,UInt8.ofNat d]->C=⟨(qV K.data.toList a.data.toList).toArray⟩->CY ⟨(afj p ds P C).toArray⟩ 1048576 ⟨3,0,0,[]⟩)/\
 CY ⟨(p.text ds++[0]).toArray⟩ 1048576 ⟨3,0,0,[]⟩/\
 (2<=ds.length->∀K C:ByteArray,K.data.toList=[UInt8.ofNat 122,UInt8.ofNat c,UInt8.ofNat 81,UInt8.ofNat d]->C=⟨(qV K.data.toList a.data.toList).toArray⟩->CY ⟨(afj p ds (1+(if p.oz=[]then 0 else 1)+1) C).toArray⟩ 1048576 ⟨3,0,0,[]⟩):=by
 have e:=afJ h F size l;have g:a.data.toList.length<=2147483647:=by rw[afk];exact hd
 refine⟨fun K C hK i=> ?_,fun K C hK i=> ?_,fun K C hK i=> ?_,af0 h ds e,fun u K C hK i=> ?_⟩
 ·rw[i,hK];exact afY h F hF size n o ds r l P s _ _ (afH j c k d (.inr t) b m f) g (afD _ _ _ _ b) (by show 97<=(UInt8.ofNat j).toNat;rw[afm j (by omega)];omega)
 ·rw[i,hK];exact afZ h ds e P s _ _ (afH 90 c k d (.inl (by omega)) b m f) g rfl
 ·rw[i,hK];exact afR h ds e P s _ _ rfl rfl
 ·rw[i,hK];exact afG h ds e u _ _ (afH 122 c 81 d (.inr (by omega)) b (by omega) f) g (afD _ _ _ _ b) (by show 97<=(UInt8.ofNat 122).toNat;decide)
end Kp
namespace Kp
open Go.RowKit Rf Cr
open Pr
open gI (bQ gQ)
theorem af2(p:Wk)(F:Nat->Nat)(ds:List (List UInt8))(a b c z:Int)(I T:Bool)(ev sv fv pv:ay)(wh:Int)(nv:ay)(NM:List Int)(c5:ByteArray)(w:af)(eb fb lb:bG)(h1:uu ev)(h2:uu sv)(h3:uu fv)(h4:uu pv)(hm:Made w p F ds z (yz a b c I ev T sv fv pv z) fv)(hD:KT w eb fb lb)(t7: -9223372036854775808<=z/\z<=9223372036854775807)(o5: -9223372036854775808<=wh/\wh<=9223372036854775807)(i7:gq w w.heap.size nv NM)(s7:c5.size<=5000000):
 aH prog 11 #[yz a b c I ev T sv fv pv z,.int .i64 wh,nv,.string c5] w fun e w'=>e= .returned (.bool true)/\aA w.heap.size w w':=by
 obtain⟨a1,n1,c1,rfl⟩:=h1;obtain⟨a2,n2,c2,rfl⟩:=h2;obtain⟨a3,n3,c3,rfl⟩:=h3;obtain⟨a4,n4,c4,rfl⟩:=h4;have f4:=hm.short;have hp:=hm.ok;obtain⟨M,hM⟩:∃M,M=p.W*p.H:=⟨_,rfl⟩;have t8:1<=M:=by rw[hM];exact bD hp.w1 hp.h1
 have t9:M<=400:=by rw[hM];exact bD hp.w2 hp.h2
 have s8:=hp.w2;have s9:=hp.h2;obtain⟨X,hX⟩:∃X,X=pU p.q (p.W*p.H):=⟨_,rfl⟩;have o6:X.length=4*M:=by rw[hX,Zw,hM]
 obtain⟨tx,d4⟩:∃tx:ByteArray,tx=⟨(p.text ds).toArray⟩:=⟨_,rfl⟩;obtain⟨tz,i9⟩:∃tz,tz=tx.size:=⟨_,rfl⟩;have t0:45<=tz/\tz<=100000:=by rw[i9,d4,fF];exact⟨f4.1,f4.2.1⟩
 have HS:au (CY tx 1048576 ⟨0,p.W,p.H,X⟩):=(by rw[d4,hX];exact hm.all.ok 1048576 (by rw[<-hM];omega) (by omega):CY _ _ _);have k5:au _:=i7;obtain⟨o7,k6,o8⟩:∃la cap,nv= .slice la NM.length cap:=by obtain⟨la,cap,e,_⟩:=id i7;exact⟨la,cap,e⟩
 subst o8;have o9:au _:=hm.wk;have p0:au _:=hm.ck;have p1:au _:=hm.im;have v3:au _:=hm.rw;have t1:au (BK tx p.W p.H X/\M=p.W*p.H):=(⟨by rw[d4,hX];exact hm.all,hM⟩:_/\_);have p2:au _:=hp;have p3:au _:=hm.fil;have f5:au (ds≠[]/\ds.length<=21):=(⟨hm.ne,hm.zn⟩:_/\_);have k7:au _:=hm.flat;have p4:=f4.2.2;have k8:au _:=hX;have f6:au _:=d4;have j0:au _:=i9;have f7:au _:=hD;clear hX d4 hD hp hM hm f4 i9 i7;unfold yz at*;go_enter func11,ntmps11
 go_upto_region 1 with fail
 have HX:au _:=aP w (.cells #[.int .i64 a,.int .i64 b,.int .i64 c,.bool I,.slice a1 n1 c1,.bool T,.slice a2 n2 c2,.slice a3 n3 c3,.slice a4 n4 c4,.int .i64 z] 56);have d5:au (aA w.heap.size w (w.alloc (.cells #[.int .i64 a,.int .i64 b,.int .i64 c,.bool I,.slice a1 n1 c1,.bool T,.slice a2 n2 c2,.slice a3 n3 c3,.slice a4 n4 c4,.int .i64 z] 56))):=((aV _ _).alloc (ah _) _:aA _ _ _);obtain⟨bx,j1⟩:∃bx,bx=w.heap.size:=⟨_,rfl⟩;rw[show(⟨w.heap.size,0,none⟩:bG)=⟨bx,0,none⟩by rw[j1]];rw[<-j1]at HX;have j2:au _:=ak HX.out;revert d5 HX j2;generalize w.alloc _=w0;intro d5 HX j2;have k9:au (∀wx,aA w0.heap.size w0 wx->aA w.heap.size w wx):=(fun wx hb=>d5.out.trans (hb.mono d5.out.size):∀wx,_);have l0:au (∀wx,aA w0.heap.size w0 wx->wx.cell? ⟨bx,0,none⟩=some (.int .i64 a)/\wx.cell? ⟨bx,1,none⟩=some (.int .i64 b)/\wx.cell? ⟨bx,2,none⟩=some (.int .i64 c)/\wx.cell? ⟨bx,3,none⟩=some (.bool I)/\wx.cell? ⟨bx,4,none⟩=some (.slice a1 n1 c1)/\wx.cell? ⟨bx,5,none⟩=some (.bool T)/\wx.cell? ⟨bx,6,none⟩=some (.slice a2 n2 c2)/\wx.cell? ⟨bx,7,none⟩=some (.slice a3 n3 c3)/\wx.cell? ⟨bx,8,none⟩=some (.slice a4 n4 c4)/\wx.cell? ⟨bx,9,none⟩=some (.int .i64 z)):=(fun wx hb=>by have h:=(hb.block _ j2.out).trans HX.out;exact⟨by simpa using(cell_of h 0).1,by simpa using(cell_of h 1).1,by simpa using(cell_of h 2).1,by simpa using(cell_of h 3).1,by simpa using(cell_of h 4).1,by simpa using(cell_of h 5).1,by simpa using(cell_of h 6).1,by simpa using(cell_of h 7).1,by simpa using(cell_of h 8).1,by simpa using(cell_of h 9).1⟩:∀wx,_)
 obtain⟨u0,u1,u2,u3,u4,u5,u6,u7,u8,u9⟩:=l0.out w0 (aV _ _);clear j1;go_wp2_with fail
 refine aU (o9.out w0 d5.out) ?_;rintro e w1 ⟨v,rfl,⟨ev,cv,sv,rfl,g1,g2,g3,g4⟩,l1⟩;obtain⟨e1,e2,e3,rfl⟩:=g1.sl;obtain⟨e4,e5,e6,rfl⟩:=g2.sl;obtain⟨e7,e8,e9,rfl⟩:=g3.sl;have p5:au _:=g4;clear g4;have HG:au (ji w1 w1.heap.size (.slice e1 e2 e3) p.E/\ji w1 w1.heap.size (.slice e4 e5 e6) p.C/\ji w1 w1.heap.size (.slice e7 e8 e9) p.S):=(⟨g1,g2,g3⟩:_/\_/\_);have l2:au _:=l1;clear g1 g2 g3 l1 u0 u1 u2 u3 u4 u5 u6 u7 u8 u9;unfold pW;go_upto_region 2 with fail
 have HY:au _:=aP w1 (oC p.W p.H p.K p.D p.I (.slice e1 e2 e3) (.slice e4 e5 e6) (.slice e7 e8 e9));have c7:aA w1.heap.size w1 (w1.alloc (oC p.W p.H p.K p.D p.I (.slice e1 e2 e3) (.slice e4 e5 e6) (.slice e7 e8 e9))):=(aV w1.heap.size w1).alloc (ah _) _;have a6:au (aA w0.heap.size w0 (w1.alloc (oC p.W p.H p.K p.D p.I (.slice e1 e2 e3) (.slice e4 e5 e6) (.slice e7 e8 e9)))):=(l2.out.trans (c7.mono l2.out.size):aA _ _ _);have f8:au (iJ p (w1.alloc (oC p.W p.H p.K p.D p.I (.slice e1 e2 e3) (.slice e4 e5 e6) (.slice e7 e8 e9))) (pW p.W p.H p.K p.D p.I (.slice e1 e2 e3) (.slice e4 e5 e6) (.slice e7 e8 e9))):=(⟨_,_,_,rfl,HG.out.1.up c7,HG.out.2.1.up c7,HG.out.2.2.up c7,p5.out⟩:iJ _ _ _);obtain⟨y,l3⟩:∃y,y=w1.heap.size:=⟨_,rfl⟩
 rw[<-l3]at HY|-;unfold oC at HY a6 f8 c7;clear c7 l3 HG;revert HY a6 f8;generalize w1.alloc _=w2;intro a6 f8 HY;have l4:au _:=ak HY.out;have p6:au (∀wx,aA w2.heap.size w2 wx->wx.cell? ⟨y,0,none⟩=some (.int .i64 (p.W:Int))/\wx.cell? ⟨y,1,none⟩=some (.int .i64 (p.H:Int))/\wx.cell? ⟨y,2,none⟩=some (.int .i64 (p.K:Int))/\wx.cell? ⟨y,3,none⟩=some (.int .i64 (p.D:Int))/\wx.cell? ⟨y,4,none⟩=some (.bool p.I)/\wx.cell? ⟨y,5,none⟩=some (.slice e1 e2 e3)/\wx.cell? ⟨y,6,none⟩=some (.slice e4 e5 e6)/\wx.cell? ⟨y,7,none⟩=some (.slice e7 e8 e9)):=(fun wx hb=>by have h:=(hb.block _ l4.out).trans HY.out;exact⟨by simpa using(cell_of h 0).1,by simpa using(cell_of h 1).1,by simpa using(cell_of h 2).1,by simpa using(cell_of h 3).1,by simpa using(cell_of h 4).1,by simpa using(cell_of h 5).1,by simpa using(cell_of h 6).1,by simpa using(cell_of h 7).1⟩:∀wx,_)
 have p7:au (∀wx,aA w2.heap.size w2 wx->aA w0.heap.size w0 wx):=(fun wx hb=>a6.out.trans (hb.mono a6.out.size):∀wx,_);obtain⟨u0,u1,u2,u3,u4,u5,u6,u7,u8,u9⟩:=l0.out w2 a6.out;go_wp2_with fail
 refine aU (p0.out w2 (k9.out w2 a6.out)) ?_;rintro e w3 ⟨cs,k,rfl,a7,l5,l6⟩;have c8:au _:=l5;clear l5;have v5:au (TJ w3 cs (kC p ds)):=(aaq a7:TJ _ _ _);obtain⟨la,cap,p8⟩:∃la cap,cs= .slice la (kC p ds).length cap:=by obtain⟨la,cap,e,_⟩:=aaq a7;exact⟨la,cap,e⟩
 subst p8;have f9:au _:=l6;have t2:au ((kC p ds).length<=cap):=(af_ a7:_<=_);have v7:au (w3.ownsRow w2.heap.size 9 1 (.slice la (kC p ds).length cap) (kC p ds).length (nJ (kC p ds))):=(a7:World.ownsRow _ _ _ _ _ _ _);obtain⟨g,t3,p9⟩:=y_ a7 (by rw[afg];omega);injection p9 with q0 v8 q1
 subst q0 q1;have l7:au (∀wx,aA w3.heap.size w3 wx->wx.ownsRow w2.heap.size 9 1 (.slice (some ⟨g,0,none⟩) (kC p ds).length cap) (kC p ds).length (nJ (kC p ds))):=(fun wx hb=>jS a7 hb:∀wx,_);have l8:au (∀wx,aA w3.heap.size w3 wx->aH prog 28 #[.slice (some ⟨g,0,none⟩) (kC p ds).length cap] wx fun e w'=>e= .returned (.string tx)/\w'=wx):=(fun wx hb=>by have h:=aad (.slice (some ⟨g,0,none⟩) (kC p ds).length cap) (kC p ds) wx (aaq (l7.out wx hb)) p4 (by rw[BJ];have:=j0.out;rw[f6.out,fF]at this;omega);rw[BJ,<-f6.out]at h;exact h:∀wx,_)
 have b5:au (∀wx (i:Nat) (t:ByteArray),1<=i->i<(kC p ds).length->aA w3.heap.size w3 wx->aH prog 38 #[.slice (some ⟨g,0,none⟩) (kC p ds).length cap,.int .i64 (i:Int),.string t] wx fun e w'=> ∃v,e= .returned v/\w'.ownsRow wx.heap.size 9 1 v ((kC p ds).length+1) (nJ ((kC p ds).take i++t::(kC p ds).drop i))/\aA wx.heap.size wx w'):=(fun wx i t h1 h2 hb=>afS (kC p ds) g _ cap _ i t wx (l7.out wx hb) h1 h2 (by have h3:=f5.out;rw[afg];by_cases h:p.oz=[]<;>simp[h]<;>omega):∀wx (i:Nat) (t:ByteArray),_);have g0:au (∀(i:Nat) (t:ByteArray),t.size<=6000000->∃B:ByteArray,B=⟨(afj p ds i t).toArray⟩/\B.size<=100000000/\∀wx v base,wx.ownsRow base 9 1 v ((kC p ds).length+1) (nJ ((kC p ds).take i++t::(kC p ds).drop i))->aH prog 28 #[v] wx fun e w'=>e= .returned (.string B)/\w'=wx):=(fun i t ht=>by
  have hlen:=af9 p ds i t;have v9:(p.text ds).length<=100000:=by have:=j0.out;rw[f6.out,fF]at this;omega
  refine⟨_,rfl,by rw[fF];omega,fun wx v base ho=> ?_⟩;exact aad v _ wx (aaq ho) (by have h3:=f5.out;have h4:=afg p ds;simp only[List.length_append,List.length_cons,List.length_take,List.length_drop];by_cases h:p.oz=[]<;>simp[h]at h4<;>omega) (by show(afj p ds i t).length<=_;omega):∀(i:Nat) (t:ByteArray),_)
 have q2:au _:=afg p ds;clear a7 l6 u0 u1 u2 u3 u4 u5 u6 u7 u8 u9;generalize (kC p ds).length=nn at*;dsimp only;have l9:au (∀wx,aA w3.heap.size w3 wx->aA w.heap.size w wx):=(fun wx hb=>k9.out wx (p7.out wx (f9.out.trans (hb.mono f9.out.size))):∀wx,_);obtain⟨u0,u1,u2,u3,u4,u5,u6,u7⟩:=p6.out w3 f9.out;have j3:au _:=p1.out w3 _ (l9.out w3 (aV _ _)) (f8.out.up f9.out);unfold pW at j3;go_wp2_with fail
 refine aU j3.out ?_;rintro e w5 ⟨iv,rfl,g5,m0⟩;rw[<-k8.out]at g5;obtain⟨li,ci,q3⟩:∃li ci,iv= .slice li X.length ci:=by obtain⟨li,ci,e,_⟩:=id g5;exact⟨li,ci,e⟩
 subst q3;have j4:au (uw w5 (.slice li X.length ci) X):=(g5:uw _ _ _);have j5:au (aA w3.heap.size w3 w5):=(m0:aA _ _ _);clear g5 m0 j3 u0 u1 u2 u3 u4 u5 u6 u7;rw[o6]at j4|-;go_upto_region 4 with fail
 have d6:au _:=aP w5 (.cells #[.int .i64 (p.W:Int),.int .i64 (p.H:Int),.slice li (4*M) ci] 32);have j6:aA w5.heap.size w5 (w5.alloc (.cells #[.int .i64 (p.W:Int),.int .i64 (p.H:Int),.slice li (4*M) ci] 32)):=(aV w5.heap.size w5).alloc (ah _) _;have c9:au (aA w3.heap.size w3 (w5.alloc (.cells #[.int .i64 (p.W:Int),.int .i64 (p.H:Int),.slice li (4*M) ci] 32))):=(j5.out.trans (j6.mono j5.out.size):aA _ _ _);have j7:au (uw (w5.alloc (.cells #[.int .i64 (p.W:Int),.int .i64 (p.H:Int),.slice li (4*M) ci] 32)) (.slice li (4*M) ci) X):=(uw.below j4.out j6:uw _ _ _);obtain⟨bi,m1⟩:∃bi,bi=w5.heap.size:=⟨_,rfl⟩;rw[<-m1]at d6|-;clear j6 m1 j4 j5;revert d6 c9 j7;generalize w5.alloc _=d;intro c9 j7 d6;have m2:au _:=ak d6.out;have m3:au (∀wx,aA d.heap.size d wx->wx.cell? ⟨bi,0,none⟩=some (.int .i64 (p.W:Int))/\wx.cell? ⟨bi,1,none⟩=some (.int .i64 (p.H:Int))/\wx.cell? ⟨bi,2,none⟩=some (.slice li (4*M) ci)):=(fun wx hb=>by have h:=(hb.block _ m2.out).trans d6.out;exact⟨by simpa using(cell_of h 0).1,by simpa using(cell_of h 1).1,by simpa using(cell_of h 2).1⟩:∀wx,_)
 have a8:au (∀wx,aA d.heap.size d wx->aA w.heap.size w wx):=(fun wx hb=>l9.out wx (c9.out.trans (hb.mono c9.out.size)):∀wx,_);have d0:au (∀wx,aA d.heap.size d wx->aA w3.heap.size w3 wx):=(fun wx hb=>c9.out.trans (hb.mono c9.out.size):∀wx,_);have h7:au (∀(b:ByteArray) wx,CY b 1048576 ⟨0,p.W,p.H,X⟩->b.size<=100000000->aA d.heap.size d wx->aH prog 30 #[.string b,.agg #[.int .i64 (p.W:Int),.int .i64 (p.H:Int),.slice li (4*M) ci]] wx fun e w'=>e= .returned (.bool true)/\aA wx.heap.size wx w'):=(fun b wx hA hs hb=>aaj b p.W p.H X (.slice li (4*M) ci) wx eb fb lb hA (f7.out.over (a8.out wx hb)) (by omega) (uw.below j7.out hb) (by omega):∀(b:ByteArray) wx,_);have b6:au (∀(b:ByteArray) wx,CY b 1048576 ⟨3,0,0,[]⟩->b.size<=100000000->aA d.heap.size d wx->aH prog 36 #[.string b] wx fun e w'=>e= .returned (.bool true)/\aA wx.heap.size wx w'):=(fun b wx hA hs hb=>ae9 b wx eb fb lb hA (f7.out.over (a8.out wx hb)) (by omega):∀(b:ByteArray) wx,_);have t4:tx.size<=100000:=by have:=j0.out;omega
 have j8:4<w.heap.size:=aN (by decide) f7.out.ng;have b7:au (∀K:ByteArray,K.size=4->∃C:ByteArray,C=⟨(qV K.data.toList c5.data.toList).toArray⟩/\C.size<=6000000/\∀wx,aA d.heap.size d wx->aH prog 35 #[.string K,.string c5] wx fun e w'=>e= .returned (.string C)/\aA wx.heap.size wx w'):=(fun K hK=>⟨_,rfl,by rw[fF,l_,afk,afk];omega,fun wx hb=>afT K c5 wx (Dc f7.out.tab j8 (a8.out wx hb)) (aN j8 (a8.out wx hb).size) hK (by omega)⟩:∀K:ByteArray,_);clear j8;go_cut [13] (fun v wx=>v= .bool true/\au (aA d.heap.size d wx))
 case first=>
  have r:au (aA d.heap.size d d.drew):=((aV _ _).drew:aA _ _ _);obtain⟨u0,u1,u2⟩:=m3.out d.drew r.out
  go_region_with (first
   |(go_at_call 28;(with_reducible refine aU (l8.out _ (d0.out _ r.out)) ?_);rintro e wi ⟨rfl,j9⟩;subst j9)
   |(go_at_call 30;(with_reducible refine aU (h7.out tx _ HS.out (by omega) r.out) ?_);rintro e we ⟨rfl,k0⟩))
  all_goals
   have k1:au (aA d.heap.size d _):=(r.out.trans (k0.mono r.out.size):aA _ _ _);go_wp2_with fail
   go_meet
   case rel=>exact⟨rfl,k1⟩
 case rest=>
  obtain⟨rfl,m4⟩:=hcut;obtain⟨N,hN⟩:∃N:Nat->Nat,N=fun j=>97+(pk (oP NM j) 26).toNat:=⟨_,rfl⟩;have m5:∀j,97<=N j/\N j<=122:=fun j=>by have:=rF (oP NM j) 26 (by omega);rw[hN];dsimp only;omega
  have q4:au (∀(j:Nat) (wx:af),aH prog 22 #[.int .i64 (oP NM j),.int .i64 26] wx fun e w'=>e= .returned (.int .i64 ((N j:Int)-97))/\w'=wx):=(fun j wx=>by have h:=qL (oP NM j) 26 (Gv k5.out j) (by omega) (by omega) wx;rw[show((N j:Int)-97)=(((pk (oP NM j) 26).toNat:Nat):Int)by rw[hN];dsimp only;omega];exact h:∀(j:Nat) (wx:af),_)
  have q5:au (∀(j:Nat) (wx:af),j<=4->aA d.heap.size d wx->aH prog 37 #[.slice o7 NM.length k6,.int .i64 (j:Int)] wx fun e w'=>e= .returned (.int .i64 (oP NM j))/\w'=wx):=(fun j wx hj hb=>yZ _ NM j _ wx (gq.over k5.out (fun k hk=>(a8.out wx hb).block k hk)) (by omega):∀(j:Nat) (wx:af),_);have d1:au _:=m5;clear hN m5;go_wp2_with fail
  go_loopw [14,15] (fun bv iv wr=> ∃n:Nat,n<=4/\iv= .int .i64 (n:Int)/\uu bv/\au (wr.ownsRow d.heap.size 5 1 bv n (kF ((List.range n).map N)))/\au (aA d.heap.size d wr)) (fun _ iv _=>match iv with| .int _ z=>(4-z).toNat|_=>0)
  case atStart=>exact⟨0,by omega,rfl,⟨none,0,0,rfl⟩,(eX _ _ _ _:World.ownsRow _ _ _ _ _ _ _),m4⟩
  case round=>
   obtain⟨n,hn,rfl,⟨b1,b2,b3,rfl⟩,HO,HB⟩:=hrel;by_cases w4:n<4
   ·have m6:(n:Int)<4:=by omega
    have d7:au _:=q5.out n wr (by omega) HB.out;have q6:au _:=q4.out n;have w7:=(d1.out n).1;have w9:=(d1.out n).2;have m7:d.heap.size<=wr.heap.size:=HB.out.size;have x0:(97:Int)+((N n:Int)-97)=(N n:Int):=by omega
    have x1:(N n:Int)%256=(N n:Int):=by omega
    go_wp2_with fail
    refine aU d7.out ?_;rintro e wx ⟨rfl,k2⟩;subst k2;go_wp2_with fail
    refine aU (q6.out _) ?_;rintro e wy ⟨rfl,q7⟩;subst q7
    go_wp2_with (first
     |(at_builtin;refine Ws rfl _ _ rfl d.heap.size _ n _ (N n:Int) HO.out rfl rfl (by omega) m7 ?_;intro v' wz a9 hg;obtain⟨g6,c6,rfl⟩:=lI.jB a9))
    have b0:au (aA d.heap.size d wz):=(lI.mW HB.out (ah _) m7 HO.out hg:aA _ _ _);have A:au _:=a9;clear a9 hg;go_wp2_with fail
    exact⟨⟨n+1,by omega,by simp,⟨_,_,_,rfl⟩,(by rw[List.range_succ,List.map_append,List.map_singleton,mZ];exact A.out:World.ownsRow _ _ _ _ _ _ _),b0⟩,by simp;omega⟩
   ·have m6:¬((n:Int)<4):=by omega
    have q8:n=4:=by omega
    subst q8;obtain⟨gb,cb,q9⟩:=y_ HO.out (by omega);injection q9 with f1 f2 f3
    subst f1 f2 f3;have d2:d.heap.size<=gb:=(World.ownsRow.lt HO.out gb rfl).1;have g9:au (wr.ownsRow d.heap.size 5 1 (.slice (some ⟨gb,0,none⟩) 4 b3) 4 (kF [N 0,N 1,N 2,N 3])):=(HO.out:World.ownsRow _ _ _ _ _ _ _);clear HO;have r0:=d1.out 0;have r1:=d1.out 1;have x2:=d1.out 2;have r2:=d1.out 3;generalize N 0=A0 at*;generalize N 1=A1 at*;generalize N 2=A2 at*;generalize N 3=A3 at*;have c2:wr.cell? ⟨gb,2,none⟩=some (.int .u8 (A2:Int)):=g9.out.cellAt 2 (by omega);have f2:wr.frozen? ⟨gb,2,none⟩=false:=g9.out.frozenAt 2;obtain⟨B2,r3⟩:∃B2,B2=A2-32:=⟨_,rfl⟩;have t5:(A2:Int)-32=(B2:Int):=by omega
    have m8:65<=B2/\B2<=90:=by omega
    clear r3;go_upto_region 13 with fail
    have A:au ((wr.setCell ⟨gb,2,none⟩ (.int .u8 (B2:Int))).ownsRow d.heap.size 5 1 (.slice (some ⟨gb,0,none⟩) 4 b3) 4 (kF [A0,A1,B2,A3])):=(Kr g9.out 2 (.int .u8 (B2:Int)):World.ownsRow _ _ _ _ _ _ _);have b0:au (aA d.heap.size d (wr.setCell ⟨gb,2,none⟩ (.int .u8 (B2:Int)))):=(Below.setCell (p:=⟨gb,2,none⟩) HB.out d2 _:aA _ _ _);clear g9 HB c2 f2 m4;revert A b0;generalize wr.setCell _ _=w8;intro A b0;have c0:w8.cell? ⟨gb,0,none⟩=some (.int .u8 (A0:Int)):=A.out.cellAt 0 (by omega);have c1:w8.cell? ⟨gb,1,none⟩=some (.int .u8 (A1:Int)):=A.out.cellAt 1 (by omega);have f1:w8.frozen? ⟨gb,1,none⟩=false:=A.out.frozenAt 1;obtain⟨Z,hZ⟩:∃Z:Bool,Z=decide (A0=116/\A1=114):=⟨_,rfl⟩;have HZ:au _:=hZ;clear hZ;go_cut [66] (fun v wx=>v= .bool Z/\wx=w8)
    case first=>
     by_cases h0:A0=116
     ·have r4:(A0:Int)=116:=by omega
      by_cases h1:A1=114
      ·have m9:(A1:Int)=114:=by omega
       have HV:au (Z=true):=(by rw[HZ.out];simp[h0,h1]:_=_);go_wp2_with fail
       go_meet
       case rel=>exact⟨by rw[HV.out],rfl⟩
      ·have m9:¬((A1:Int)=114):=by omega
       have HV:au (Z=false):=(by rw[HZ.out];simp[h1]:_=_);go_wp2_with fail
       go_meet
       case rel=>exact⟨by rw[HV.out,beq_eq_false_iff_ne.2 m9],rfl⟩
     ·have r4:¬((A0:Int)=116):=by omega
      have HV:au (Z=false):=(by rw[HZ.out];simp[h0]:_=_);go_wp2_with fail
      go_meet
      case rel=>exact⟨by rw[HV.out],rfl⟩
    case rest=>
     obtain⟨rfl,k3⟩:=hcut;subst k3;go_upto_if 66 with fail
     go_cut [14] (fun v wx=>v= .slice (some ⟨gb,0,none⟩) 4 b3/\∃B1:Nat,(97<=B1/\B1<=122)/\au (¬(A0=116/\B1=114))/\au (wx.ownsRow d.heap.size 5 1 (.slice (some ⟨gb,0,none⟩) 4 b3) 4 (kF [A0,B1,B2,A3]))/\au (aA d.heap.size d wx))
     case first=>
      cases Z with
      |true=>
       go_wp2_with fail
       go_meet
       case rel=>exact⟨rfl,115,by omega,(fun h=>by omega:¬_),(Kr A.out 1 (.int .u8 115):World.ownsRow _ _ _ _ _ _ _),(Below.setCell (p:=⟨gb,1,none⟩) b0.out d2 _:aA _ _ _)⟩
      |false=>
       have HV:au (¬(A0=116/\A1=114)):=(fun h=>by have:=HZ.out;simp[h.1,h.2]at this:¬_);go_wp2_with fail
       go_meet
       case rel=>exact⟨rfl,A1,r1,HV,A,b0⟩
     case rest=>
      obtain⟨rfl,B1,r5,x3,k4,h5⟩:=hcut;clear c0 c1 f1 A b0 HZ;obtain⟨q,hq⟩:∃q,q=(pk wh (k+1:Nat)).toNat:=⟨_,rfl⟩;have x4:q<=k:=by have:=rF wh (k+1:Nat) (by omega);omega
      have x5:1<=k/\k<=2:=by have:=c8.out;by_cases h:p.oz=[]<;>simp[h]at this<;>omega
      have r6:au (∀wx:af,aH prog 22 #[.int .i64 wh,.int .i64 ((k:Int)+1)] wx fun e w'=>e= .returned (.int .i64 (q:Int))/\w'=wx):=(fun wx=>by rw[hq];exact qL wh (k+1) o5 (by omega) (by omega) wx:∀wx,_);clear hq;go_wp2_with fail
      refine aU (r6.out _) ?_;rintro e wx ⟨rfl,k2⟩;subst k2;have h6:au (nn=1+(if p.oz=[]then 0 else 1)+ds.length+1):=(q2.out:_=_);have t6:k+2<=nn/\nn<=30:=by
       have h1:=h6.out;have h2:=c8.out;have h3:=f5.out;have h4:1<=ds.length:=by
        rcases Nat.eq_zero_or_pos ds.length with h|h
        ·exact absurd (List.length_eq_zero_iff.1 h) h3.1
        ·exact h
       rw[<-h2]at h1;omega
      obtain⟨P,hP⟩:∃P:Nat,P=if q=k then nn-1 else 1+q:=⟨_,rfl⟩
      have d3:1<=P/\P<nn:=by by_cases h:q=k<;>simp[h]at hP<;>omega
      have r7:au (afh p ds P):=(by
       unfold afh;rw[afg,<-h6.out];by_cases h:q=k
       ·rw[aG h]at hP;exact .inr (.inr hP)
       ·rw[ax h]at hP;have h2:=c8.out;by_cases ht:p.oz=[]
        ·rw[aG ht]at h2;left;omega
        ·rw[ax ht]at h2|-;rcases Nat.eq_zero_or_pos q with h0|h0
         ·left;omega
         ·right;left;omega:afh _ _ _)
      go_upto_if 77 with fail
      go_cut [17] (fun v wy=>v= .int .i64 (P:Int)/\wy=wx)
      case first=>
       by_cases h:q=k
       ·have hI:(1:Int)+(q:Int)=(k:Int)+1:=by omega
        have HV:au ((nn:Int)-1=(P:Int)):=(by rw[aG h]at hP;omega:_=_);clear hP;go_wp2_with fail
        go_meet
        case rel=>exact⟨by rw[HV.out],rfl⟩
       ·have hI:¬((1:Int)+(q:Int)=(k:Int)+1):=by omega
        have HV:au ((1:Int)+(q:Int)=(P:Int)):=(by rw[ax h]at hP;omega:_=_);clear hP;go_wp2_with fail
        go_meet
        case rel=>exact⟨by rw[HV.out],rfl⟩
      case rest=>
       obtain⟨rfl,k3⟩:=hcut;subst k3;clear hP;obtain⟨d7,r8,r9,s0,s3⟩:au _/\au _/\au _/\au _/\au _:=aga p2.out F p3.out (1+(pk z 60000).toNat) (by omega) (by have:=rF z 60000 (by omega);omega) ds f5.out.1 k7.out P r7.out A0 B1 B2 A3 r0 r5 m8 r2 c5 (by omega);rw[<-k8.out]at d7;obtain⟨K1,h8,h9,b4⟩:=afr k4.out (by omega) (by omega) (by omega) (by omega);obtain⟨C1,n0,i0,i1⟩:=b7.out K1 h8;obtain⟨T1,n5,i2,i3⟩:=g0.out P C1 i0;have n6:au _:=i1;have n7:au _:=i3;have n8:au (CY T1 1048576 ⟨0,p.W,p.H,X⟩):=(by rw[n5];exact d7.out K1 C1 h9 n0:CY _ _ _);clear i1 i3 n5 n0 h9 d7;go_wp2_with fail
       refine aU (n6.out _ h5.out) ?_;rintro e s4 ⟨rfl,d8⟩;have b8:au (aA d.heap.size d s4):=(h5.out.trans (d8.mono h5.out.size):aA _ _ _);have i4:au _:=jS k4.out d8;clear d8 b4 n6;go_wp2_with fail
       refine aU (b5.out _ P C1 d3.1 d3.2 (d0.out _ b8.out)) ?_;rintro e x ⟨v11,rfl,d9,e0⟩;obtain⟨s5,c11,rfl⟩:=y_ d9 (by omega);have b9:au (aA d.heap.size d x):=(b8.out.trans (e0.mono b8.out.size):aA _ _ _);have i5:au _:=jS i4.out e0;have n9:au (∀wx,aA x.heap.size x wx->aH prog 28 #[.slice (some ⟨s5,0,none⟩) (nn+1) c11] wx fun e w'=>e= .returned (.string T1)/\w'=wx):=(fun wx hb=>n7.out wx _ _ (jS d9 hb):∀wx,_);clear d9 e0 n7;go_upto_region 20 with fail
       go_cut [13] (fun v wx=>v= .bool true/\au (aA x.heap.size x wx))
       case first=>
        have r:au (aA x.heap.size x x.drew):=((aV _ _).drew:aA _ _ _);have i6:au (aA d.heap.size d x.drew):=(b9.out.drew:aA _ _ _);obtain⟨u0,u1,u2⟩:=m3.out x.drew i6.out
        go_region_with (first
         |(go_at_call 28;(with_reducible refine aU (n9.out _ r.out) ?_);rintro e wi ⟨rfl,j9⟩;subst j9)
         |(go_at_call 30;(with_reducible refine aU (h7.out T1 _ n8.out i2 i6.out) ?_);rintro e we ⟨rfl,k0⟩))
        all_goals
         have k1:au (aA x.heap.size x _):=(r.out.trans (k0.mono r.out.size):aA _ _ _);go_wp2_with fail
         go_meet
         case rel=>exact⟨rfl,k1⟩
       case rest=>
        obtain⟨rfl,f0⟩:=hcut;have f:au (aA d.heap.size d wc):=(b9.out.trans (f0.out.mono b9.out.size):aA _ _ _);have l:au (wc.ownsRow d.heap.size 5 1 (.slice (some ⟨gb,0,none⟩) 4 b3) 4 (kF [A0,B1,B2,A3])):=(jS i5.out f0.out:World.ownsRow _ _ _ _ _ _ _);clear h5 k4 b8 i4 b9 i5 n9 n8 f0 HS h8 i0 i2;revert f l;generalize wc=m;intro f l;have cI:m.cell? ⟨gb,0,none⟩=some (.int .u8 (A0:Int)):=l.out.cellAt 0 (by omega);have fI:m.frozen? ⟨gb,0,none⟩=false:=l.out.frozenAt 0;go_upto_region 24 with fail
        have G:au ((m.setCell ⟨gb,0,none⟩ (.int .u8 90)).ownsRow d.heap.size 5 1 (.slice (some ⟨gb,0,none⟩) 4 b3) 4 (kF [90,B1,B2,A3])):=(Kr l.out 0 (.int .u8 90):World.ownsRow _ _ _ _ _ _ _);have J:au (aA d.heap.size d (m.setCell ⟨gb,0,none⟩ (.int .u8 90))):=(Below.setCell (p:=⟨gb,0,none⟩) f.out d2 _:aA _ _ _);clear cI fI l f;revert G J;generalize m.setCell _ _=m;intro l f;obtain⟨K2,L,O,b4⟩:=afr l.out (by omega) (by omega) (by omega) (by omega);obtain⟨C2,hC,Q,R⟩:=b7.out K2 L;obtain⟨T2,hT,U,V⟩:=g0.out P C2 Q;have HC:au _:=R;have HT:au _:=V;have HR:au (CY T2 1048576 ⟨3,0,0,[]⟩):=(by rw[hT];exact r8.out K2 C2 O hC:CY _ _ _);clear R V hT hC O L;go_wp2_with fail
        refine aU (HC.out _ f.out) ?_;rintro e wa ⟨rfl,hb⟩;have s:au (aA d.heap.size d wa):=(f.out.trans (hb.mono f.out.size):aA _ _ _);have Y:au _:=jS l.out hb;clear hb b4 HC f l;go_wp2_with fail
        refine aU (b5.out _ P C2 d3.1 d3.2 (d0.out _ s.out)) ?_;rintro e wb ⟨vb,rfl,ho,hb⟩;obtain⟨gI,cI,rfl⟩:=y_ ho (by omega);have u:au (aA d.heap.size d wb):=(s.out.trans (hb.mono s.out.size):aA _ _ _);have a0:au _:=jS Y.out hb;have a5:au _:=HT.out wb _ _ ho;clear ho hb HT s Y Q;go_wp2_with fail
        refine aU a5.out ?_;rintro e wt ⟨rfl,o⟩;have o:=o.symm;subst o;clear a5;go_wp2_with fail
        refine aU (b6.out T2 _ HR.out U u.out) ?_;rintro e m ⟨rfl,hb⟩;have f:au (aA d.heap.size d m):=(u.out.trans (hb.mono u.out.size):aA _ _ _);have l:au (m.ownsRow d.heap.size 5 1 (.slice (some ⟨gb,0,none⟩) 4 b3) 4 (kF [90,B1,B2,A3])):=(jS a0.out hb:World.ownsRow _ _ _ _ _ _ _);clear hb HR u a0 U;have cI:m.cell? ⟨gb,0,none⟩=some (.int .u8 (90:Int)):=l.out.cellAt 0 (by omega);have fI:m.frozen? ⟨gb,0,none⟩=false:=l.out.frozenAt 0;go_upto_region 26 with fail
        have G:au ((m.setCell ⟨gb,0,none⟩ (.int .u8 122)).ownsRow d.heap.size 5 1 (.slice (some ⟨gb,0,none⟩) 4 b3) 4 (kF [122,B1,B2,A3])):=(Kr l.out 0 (.int .u8 122):World.ownsRow _ _ _ _ _ _ _);have J:au (aA d.heap.size d (m.setCell ⟨gb,0,none⟩ (.int .u8 122))):=(Below.setCell (p:=⟨gb,0,none⟩) f.out d2 _:aA _ _ _);clear cI fI l f;revert G J;generalize m.setCell _ _=m;intro l f;have cI:m.cell? ⟨gb,2,none⟩=some (.int .u8 (B2:Int)):=l.out.cellAt 2 (by omega);have fI:m.frozen? ⟨gb,2,none⟩=false:=l.out.frozenAt 2;go_upto_region 27 with fail
        have G:au ((m.setCell ⟨gb,2,none⟩ (.int .u8 113)).ownsRow d.heap.size 5 1 (.slice (some ⟨gb,0,none⟩) 4 b3) 4 (kF [122,B1,113,A3])):=(Kr l.out 2 (.int .u8 113):World.ownsRow _ _ _ _ _ _ _);have J:au (aA d.heap.size d (m.setCell ⟨gb,2,none⟩ (.int .u8 113))):=(Below.setCell (p:=⟨gb,2,none⟩) f.out d2 _:aA _ _ _);clear cI fI l f;revert G J;generalize m.setCell _ _=m;intro l f;obtain⟨K2,L,O,b4⟩:=afr l.out (by omega) (by omega) (by omega) (by omega);obtain⟨C2,hC,Q,R⟩:=b7.out K2 L;obtain⟨T2,hT,U,V⟩:=g0.out P C2 Q;have HC:au _:=R;have HT:au _:=V;have HR:au (CY T2 1048576 ⟨3,0,0,[]⟩):=(by rw[hT];exact r9.out K2 C2 O hC:CY _ _ _);clear R V hT hC O L;go_wp2_with fail
        refine aU (HC.out _ f.out) ?_;rintro e wa ⟨rfl,hb⟩;have s:au (aA d.heap.size d wa):=(f.out.trans (hb.mono f.out.size):aA _ _ _);have Y:au _:=jS l.out hb;clear hb b4 HC f l;go_wp2_with fail
        refine aU (b5.out _ P C2 d3.1 d3.2 (d0.out _ s.out)) ?_;rintro e wb ⟨vb,rfl,ho,hb⟩;obtain⟨gI,cI,rfl⟩:=y_ ho (by omega);have u:au (aA d.heap.size d wb):=(s.out.trans (hb.mono s.out.size):aA _ _ _);have a0:au _:=jS Y.out hb;have a5:au _:=HT.out wb _ _ ho;clear ho hb HT s Y Q;go_wp2_with fail
        refine aU a5.out ?_;rintro e wt ⟨rfl,o⟩;have o:=o.symm;subst o;clear a5;go_wp2_with fail
        refine aU (b6.out T2 _ HR.out U u.out) ?_;rintro e m ⟨rfl,hb⟩;have f:au (aA d.heap.size d m):=(u.out.trans (hb.mono u.out.size):aA _ _ _);have l:au (m.ownsRow d.heap.size 5 1 (.slice (some ⟨gb,0,none⟩) 4 b3) 4 (kF [122,B1,113,A3])):=(jS a0.out hb:World.ownsRow _ _ _ _ _ _ _);clear hb HR u a0 U;have o0:au (CY (tx++⟨#[0]⟩) 1048576 ⟨3,0,0,[]⟩):=(by rw[f6.out,show((⟨(p.text ds).toArray⟩:ByteArray)++⟨#[0]⟩)=⟨(p.text ds++[0]).toArray⟩by apply gK;simp];exact s0.out:CY _ _ _)
        have o1:(tx++⟨#[0]⟩:ByteArray).size<=100000000:=by have h1:(⟨#[0]⟩:ByteArray).size=1:=rfl;rw[gX];omega
        have o2:au (∀(b:ByteArray) wx,b=tx++⟨#[0]⟩->aA d.heap.size d wx->aH prog 36 #[.string b] wx fun e w'=>e= .returned (.bool true)/\aA wx.heap.size wx w'):=(fun b wx hb hx=>by subst hb;exact b6.out _ wx o0.out o1 hx:∀(b:ByteArray) wx,_);clear o1 o0;go_wp2_with fail
        refine aU (l8.out _ (d0.out _ f.out)) ?_;rintro e wt ⟨rfl,o⟩;have o:=o.symm;subst o;go_wp2_with fail
        refine aU (o2.out _ _ rfl f.out) ?_;rintro e wo ⟨rfl,hb⟩;have J:au (aA d.heap.size d wo):=(f.out.trans (hb.mono f.out.size):aA _ _ _);have G:au (wo.ownsRow d.heap.size 5 1 (.slice (some ⟨gb,0,none⟩) 4 b3) 4 (kF [122,B1,113,A3])):=(jS l.out hb:World.ownsRow _ _ _ _ _ _ _);clear hb f l o2;revert J G;generalize wo=m;intro f l;by_cases h2:2<=ds.length
        ·have s6:(k:Int)+1<(nn:Int)-1:=by have h1:=h6.out;have h3:=c8.out;rw[<-h3]at h1;omega
         have o3:au _:=s3.out h2;rw[<-c8.out]at o3;have o4:au (∀wx (t:ByteArray),aA w3.heap.size w3 wx->aH prog 38 #[.slice (some ⟨g,0,none⟩) nn cap,.int .i64 ((k:Int)+1),.string t] wx fun e w'=> ∃v,e= .returned v/\w'.ownsRow wx.heap.size 9 1 v (nn+1) (nJ ((kC p ds).take (k+1)++t::(kC p ds).drop (k+1)))/\aA wx.heap.size wx w'):=(fun wx t hb=>by have h:=b5.out wx (k+1) t (by omega) (by omega) hb;rw[show((k+1:Nat):Int)=(k:Int)+1 by omega]at h;exact h:∀wx (t:ByteArray),_)
         clear h2;have cI:m.cell? ⟨gb,2,none⟩=some (.int .u8 (113:Int)):=l.out.cellAt 2 (by omega);have fI:m.frozen? ⟨gb,2,none⟩=false:=l.out.frozenAt 2;go_upto_region 31 with fail
         have G:au ((m.setCell ⟨gb,2,none⟩ (.int .u8 81)).ownsRow d.heap.size 5 1 (.slice (some ⟨gb,0,none⟩) 4 b3) 4 (kF [122,B1,81,A3])):=(Kr l.out 2 (.int .u8 81):World.ownsRow _ _ _ _ _ _ _);have J:au (aA d.heap.size d (m.setCell ⟨gb,2,none⟩ (.int .u8 81))):=(Below.setCell (p:=⟨gb,2,none⟩) f.out d2 _:aA _ _ _);clear cI fI l f;revert G J;generalize m.setCell _ _=m;intro l f;obtain⟨K2,L,O,b4⟩:=afr l.out (by omega) (by omega) (by omega) (by omega);obtain⟨C2,hC,Q,R⟩:=b7.out K2 L;obtain⟨T2,hT,U,V⟩:=g0.out (k+1) C2 Q;have HC:au _:=R;have HT:au _:=V;have HR:au (CY T2 1048576 ⟨3,0,0,[]⟩):=(by rw[hT];exact o3.out K2 C2 O hC:CY _ _ _);clear R V hT hC O L;go_wp2_with fail
         refine aU (HC.out _ f.out) ?_;rintro e wa ⟨rfl,hb⟩;have s:au (aA d.heap.size d wa):=(f.out.trans (hb.mono f.out.size):aA _ _ _);have Y:au _:=jS l.out hb;clear hb b4 HC f l;go_wp2_with fail
         refine aU (o4.out _ C2 (d0.out _ s.out)) ?_;rintro e wb ⟨vb,rfl,ho,hb⟩;obtain⟨gI,cI,rfl⟩:=y_ ho (by omega);have u:au (aA d.heap.size d wb):=(s.out.trans (hb.mono s.out.size):aA _ _ _);have a0:au _:=jS Y.out hb;have a5:au _:=HT.out wb _ _ ho;clear ho hb HT s Y Q;go_wp2_with fail
         refine aU a5.out ?_;rintro e wt ⟨rfl,o⟩;have o:=o.symm;subst o;clear a5;go_wp2_with fail
         refine aU (b6.out T2 _ HR.out U u.out) ?_;rintro e m ⟨rfl,hb⟩;have f:au (aA d.heap.size d m):=(u.out.trans (hb.mono u.out.size):aA _ _ _);have l:au (m.ownsRow d.heap.size 5 1 (.slice (some ⟨gb,0,none⟩) 4 b3) 4 (kF [122,B1,81,A3])):=(jS a0.out hb:World.ownsRow _ _ _ _ _ _ _);clear hb HR u a0 U;go_wp2_with fail
         go_ret;exact⟨rfl,a8.out _ f.out⟩
        ·have s6:¬((k:Int)+1<(nn:Int)-1):=by have h1:=h6.out;have h3:=c8.out;rw[<-h3]at h1;omega
         clear h2;go_wp2_with fail
         go_ret;exact⟨rfl,a8.out _ f.out⟩
end Kp
namespace idle
open Go.ChangeShapes Go.WideShapes Go.ChangeAt Go.RowKit
open Go.ChangeMaps (open_string shut_string)
theorem agi{H:Type}{d:DataW H}{l:List (DataW H)}(h:d∈l):Rows.uptoBulk d<=Rows.uptoBulkAll l:=by
 induction l with
 |nil=>cases h
 |cons x r a=>
  simp only[Rows.uptoBulkAll];cases List.mem_cons.1 h with
  |inl e=>subst e;omega
  |inr e=>have:=a e;omega
theorem agj{H:Type}{bytes:List UInt8}{l:List (DataW H)}(a:Rows.uptoSmall H l=true)(h:DataW.lit (.string bytes)∈l):bytes.length<=1048576:=by have h1:=lW a;have h2:=agi h;simp only[Rows.uptoBulk]at h2;omega
def wit:Array ay:= #[.agg #[.int .i64 0,.int .i64 0,.int .i64 0,.bool false,.slice none 0 0,.bool false,.slice none 0 0,.slice none 0 0,.slice none 0 0,.int .i64 0],.int .i64 0,.slice none 0 0,.string ⟨#[]⟩]
theorem reads(os:Os){H:Type}(enc:aW×ay->H):∃places,DataW.whole enc prog ((World.doorLaid prog 95 os).forCall (fun _ _=>0) ⟨#[],wit,[]⟩).memory f11.params.toList Rows.idleSpec.vars false wit.toList 8=some ([.agg [.lit (.int .i64 0),.lit (.int .i64 0),.lit (.int .i64 0),.lit (.bool false),.nil,.lit (.bool false),.nil,.nil,.nil,.lit (.int .i64 0)],.lit (.int .i64 0),.nil,.lit (.string [])],[],places):=
 ⟨[],by kernel_rfl⟩
set_option maxRecDepth 100000 in
theorem afU(os:Os)(started:os.Started)(H:Type)(enc:aW×ay->H)(F:Stop.Interp):
 ReturnsInHanded {} checked os 11 .any ((Rows.OpenSpec.upto Rows.idleSpec).preRow enc prog f11 Rows.idleUptoRow.domain false Rows.idleUptoRow.laid) (((Rows.OpenSpec.upto Rows.idleSpec).at F).post enc prog f11 false true false false):=by
 obtain⟨places,hx⟩:=reads os enc
 refine returnsInHanded_of_row (C:=checked) (s:=Rows.OpenSpec.upto Rows.idleSpec) own started (by kernel_rfl) func11
  (witness_row_atRef (enc:=enc) (C:=checked) false (World.doorLaid prog 95 os) wit rfl (by kernel_rfl) (by kernel_rfl) (by kernel_rfl)
    (OpenSpec.preRow_of_cond 8 hx (by kernel_rfl) (fun k hk=>by cases hk;kernel_rfl) (by kernel_rfl) (WE os _))) ?_
 intro W base args ds gs before f hW _ l w hL _ _;have d:∀(j:Nat) t v,f11.params[j]?=some t->args[j]?=some v->Value.okWide prog W .any base t v:=f;have m:(DataW.weightsEach prog (f11.params.toList++Rows.idleSpec.plain.varTypes prog) (ds++gs)).all (· <=reachBytes)=true:=w;have o:Rows.uptoSmall H (ds++gs)=true:=l _ rfl;have G:laidMetH prog BM W:=hL;have J:=hW;obtain⟨p,q,y,hV,rfl,a0,a2⟩:=hW;have R:DataW.TrodAll enc prog W 0 (fun _=>true) true f11.params.toList args.toList ds p:=y;rw[params11]at R d m;obtain⟨v0,a3,d0,a4,p0,q0,K,rfl,rfl,h0,r0⟩:=trodAll_cons R;obtain⟨v1,a5,d1,a6,p1,q1,rfl,rfl,rfl,h1,r1⟩:=trodAll_cons r0;obtain⟨v2,a7,d2,a8,p2,q2,rfl,rfl,rfl,h2,r2⟩:=trodAll_cons r1;obtain⟨U,a9,d3,b0,p3,q3,rfl,rfl,rfl,V,r3⟩:=trodAll_cons r2;obtain⟨rfl,rfl,rfl⟩:=trodAll_nil r3;obtain rfl:args= #[v0,v1,v2,U]:=by cases args;simp_all
 obtain⟨rfl,rfl⟩:=trodVars_none hV;have A:∀x∈p0,x.block<W.heap.size:=by obtain⟨fl,r⟩:=h0;exact DataW.trod_lt _ _ _ _ r
 obtain⟨a,b,c,z,I,T,ev,X,fv,pv,E,S,FF,P,rfl,Y,hS,hF,Z,ha,hb,hc,hz⟩:=acg (d 0 56 v0 rfl rfl) h0 (fun n hn=>lW (List.all_eq_true.1 m n (DataW.weights_mem_each (j:=0) rfl rfl n hn)));obtain⟨a1,rfl,rfl,rfl,w1⟩:=open_int underlying3 (d 1 3 v1 rfl rfl) h1;have B:∀x∈p2,x.block<W.heap.size:=by obtain⟨fl,r⟩:=h2;exact DataW.trod_lt _ _ _ _ r
 obtain⟨la,n,cap,L,rfl,M,g,D⟩:=afa (d 2 29 v2 rfl rfl) h2;obtain⟨N,rfl,rfl,rfl,O⟩:=open_string underlying9 (d 3 9 U rfl rfl) V;have b1:N.size<=1048576:=by have:=agj o (bytes:=N.data.toList) (by simp);simpa using this
 have hn:n<=17592186043904:=(by
  rcases D with h|⟨el,sp,rfl,Q⟩
  ·omega
  ·have h1:=sized_slice m (j:=2) (t:=29) (e:=3) (elems:=el) (spare:=sp) rfl rfl underlying29;have h2:prog.bytesOf 3=8:=by kernel_rfl
   rw[h2,Q]at h1;have V:reachBytes=140737488351232:=rfl;omega)
 obtain⟨eb,fb,lb,hD⟩:=Lp G;clear y f;have hm:=Kp.acf a b c z I T ev X fv pv E S FF P W eb fb lb hD ha hb hc hz Y hS hF Z;refine(Kp.af2 _ _ _ a b c z I T ev X fv pv a1 (.slice la n cap) L N W eb fb lb (Kp.xe Y) (Kp.xe hS) (Kp.xe hF) (Kp.xe Z) hm hD hz (ug w1) ⟨la,cap,by rw[M],by omega,fun i hi=>g i (by omega)⟩ (by omega)).mono fun e W' ⟨he,u⟩=> ?_;subst he;exact⟨_,rfl,_,_,_,[],_,[],J,trodAll_mk1 (shut_bool underlying4 _),trodAll_cons_mk (Below.trod (by kernel_rfl) (by kernel_rfl) (lW (by kernel_rfl)) h0 u A) (trodAll_cons_mk (shut_int underlying3 w1) (trodAll_cons_mk (Below.trod (by kernel_rfl) (by kernel_rfl) (lW (by kernel_rfl)) h2 u B) (trodAll_cons_mk (shut_string underlying9 O) trodAll_mk0))),rfl,u.frame _,fun h=>by cases h⟩
end idle
end Go.Proofs.YtephkcdbnogdhaaGreatDoor
