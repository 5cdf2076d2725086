import Derived.Test.YtephkcdbnogdhabGreatDoorM25
import Derived.Test.YtephkcdbnogdhabGreatDoorM26
set_option linter.unusedVariables false
set_option maxHeartbeats 40000000
set_option maxRecDepth 10000
namespace Go.Proofs.YtephkcdbnogdhabGreatDoor
open Go.Proofs.Tryz
open Go renaming World->af,Value->ay,Calls->aH,TypeId->aW,Addr->bG
open Go.RowKit renaming Hid->au,Below->aA,intOf->bH
namespace Pr
open Rf
open gI (cut fK)
def vT(last:Nat)(x:List UInt8):List UInt8:=[UInt8.ofNat last,UInt8.ofNat x.length,UInt8.ofNat (x.length/256),UInt8.ofNat (65535-x.length),UInt8.ofNat ((65535-x.length)/256)]++x
theorem vU(last:Nat)(x:List UInt8):(vT last x).length=5+x.length:=by simp[vT];omega
def kQ(size:Nat):Nat->List UInt8->List UInt8
 |0,x=>vT 1 x
 |n+1,x=>if size<x.length then vT 0 (x.take size)++kQ size n (x.drop size)else vT 1 x
def lG(s:ByteArray)(p:Nat)(l:List UInt8):Prop:=p+l.length<=s.size/\∀i,i<l.length->aF s (p+i)=(l.getD i 0).toNat
theorem lG.left{s:ByteArray}{p:Nat}{a b:List UInt8}(h:lG s p (a++b)):lG s p a:=by refine⟨by have:=h.1;simp at this;omega,fun i hi=> ?_⟩;rw[h.2 i (by simp;omega),ag,dI hi,<-ag]
theorem lG.right{s:ByteArray}{p:Nat}{a b:List UInt8}(h:lG s p (a++b)):lG s (p+a.length) b:=by refine⟨by have:=h.1;simp at this;omega,fun i hi=> ?_⟩;rw[dK,h.2 (a.length+i) (by simp;omega),ag,fC (by omega),Nat.add_sub_cancel_left,<-ag]
theorem aeb(s:ByteArray)(p:Nat)(h:p<s.size):bZ s 8 ⟨8*p,false⟩=(aF s p,⟨8*(p+1),false⟩):=by rw[gV s 8 (8*p) (by omega),jV s (8*p) p rfl];congr 2
theorem acy(s:ByteArray)(p:Nat)(h:p+1<s.size):bZ s 16 ⟨8*p,false⟩=(aF s p+256*aF s (p+1),⟨8*(p+2),false⟩):=by rw[gV s 16 (8*p) (by omega),show 16=8+8 from rfl,rZ,jV s (8*p) p rfl,jV s (8*p+8) (p+1) (by omega)];congr 2
theorem abU(s:ByteArray)(most:Nat)(l:List UInt8):∀(p:Nat) (out:List UInt8),lG s p l->out.length+l.length<=most->GK s most l.length ⟨⟨8*p,false⟩,out⟩=⟨⟨8*(p+l.length),false⟩,out++l⟩:=by
 induction l with
 |nil=>intro p out h hm;simp[GK]
 |cons x l c=>
  intro p out h hm;have hb:=h.2 0 (by simp);have d:=h.1;rw[dF]at hm d|-;rw[Jt _ _ _ _ rfl,aeb s p (by omega)];dsimp only;rw[rM most _ _ (by show¬most<=out.length;omega) rfl];have e:UInt8.ofNat (aF s p)=x:=by rw[cO]at hb;rw[hb];simp
  rw[e];have h2:lG s (p+1) l:=by have:=lG.right (a:=[x]) (b:=l) (by simpa using h);simpa using this
  rw[c (p+1) (out++[x]) h2 (by rw[aK,lq];omega)];rw[bI,List.singleton_append,show p+1+l.length=p+(l.length+1)by omega]
theorem yX(n:Nat):(UInt8.ofNat n).toNat=n%256:=by simp
theorem Gs(s:ByteArray)(aO most last:Nat)(l:List UInt8)(p:Nat)(out:List UInt8)(q:last<=1)(h:lG s p (vT last l))(hm:out.length+l.length<=most)(c:l.length<=65535):
 iI s aO most ⟨⟨8*p,false⟩,out⟩=(last,⟨⟨8*(p+(vT last l).length),false⟩,out++l⟩):=by
 have d:=h.1;rw[vU]at d|-;have a:=h.left.2 0 (by simp);have e:=h.left.2 1 (by simp);have f:=h.left.2 2 (by simp);have g:=h.left.2 3 (by simp);have i:=h.left.2 4 (by simp);have j:lG s (p+5) l:=by have:=h.right;simpa using this
 have c0:aF s p=last:=by rw[cO]at a;rw[a];simp;omega
 have c1:aF s (p+1)=l.length%256:=by rw[e];simp
 have c2:aF s (p+2)=l.length/256%256:=by rw[f];simp
 have c3:aF s (p+3)=(65535-l.length)%256:=by rw[g];simp
 have c4:aF s (p+4)=(65535-l.length)/256%256:=by rw[i];simp
 have b:bC s (8*p) 8=last:=by rw[jV s (8*p) p rfl,c0]
 have k:bC s (8*p) 1=last:=by have:=vC s (8*p) 1 8 (by omega);rw[<-this,b];omega
 have m:bC s (8*p+1) 2=0:=by have n:=yF s (8*p) 1 8 (by omega);have o:=vC s (8*p+1) 2 7 (by omega);rw[<-o,<-n,b];rcases(by omega:last=0\/last=1)with rfl|rfl<;>rfl
 unfold iI;rw[wB s (8*p) (by omega)];dsimp only;rw[k,gV s 2 (8*p+1) (by omega)];dsimp only;rw[m];refine jo (Prod.mk last) ?_;unfold qh;rw[ax (by simp),aG rfl];unfold jA qg;have ea:oW ⟨8*p+1+2,false⟩=⟨8*(p+1),false⟩:=by
  unfold oW;congr 1
  show(8*p+1+2+7)/8*8=_;omega
 dsimp only;rw[ea,acy s (p+1) (by omega)];dsimp only;rw[show p+1+2=p+3 by omega,acy s (p+3) (by omega)];dsimp only;rw[show p+1+1=p+2 by omega,show p+3+1=p+4 by omega,show p+3+2=p+5 by omega,c1,c2,c3,c4];have en:l.length%256+256*(l.length/256%256)=l.length:=by omega
 have em:(65535-l.length)%256+256*((65535-l.length)/256%256)=65535-l.length:=by omega
 rw[en,em,aG (by omega),abU s most l (p+5) out j hm,dK]
theorem VX(s:ByteArray)(aO most size:Nat)(k:1<=size)(d:size<=65535)(n:Nat):∀(l:List UInt8) (p:Nat) (out:List UInt8) (f:Nat),l.length<=size*(n+1)->lG s p (kQ size n l)->out.length+l.length<=most->n+1<=f->
 xC s aO most f ⟨⟨8*p,false⟩,out⟩=⟨⟨8*(p+(kQ size n l).length),false⟩,out++l⟩:=by
 induction n with
 |zero=>intro l p out f b h hm i;obtain⟨g,rfl⟩:∃g,f=g+1:=⟨f-1,by omega⟩;have e:=Gs s aO most 1 l p out (by omega) h hm (by omega);rw[AU _ _ _ _ _ rfl (by rw[e];exact Nat.one_ne_zero),e];rfl
 |succ n j=>
  intro l p out f b h hm i;obtain⟨g,rfl⟩:∃g,f=g+1:=⟨f-1,by omega⟩;unfold kQ at h|-;by_cases c:size<l.length
  ·rw[aG c]at h|-;have a:(l.take size).length=size:=by simp;omega
   have e:=Gs s aO most 0 (l.take size) p out (by omega) h.left (by rw[a];omega) (by omega);rw[Jw _ _ _ _ _ rfl (by rw[e]),e];dsimp only;have hd:(l.drop size).length=l.length-size:=by simp
   rw[j (l.drop size) (p+(vT 0 (l.take size)).length) (out++l.take size) g (by rw[hd];rw[Nat.mul_add]at b;omega) h.right (by rw[aK,a,hd];omega) (by omega)];rw[bI,nS,aK,dK]
  ·rw[ax c]at h|-;have e:=Gs s aO most 1 l p out (by omega) h hm (by omega);rw[AU _ _ _ _ _ rfl (by rw[e];exact Nat.one_ne_zero),e]
theorem Ot(size n:Nat)(l:List UInt8)(h:l.length<=size):kQ size n l=vT 1 l:=by
 cases n with
 |zero=>rfl
 |succ n=>rw[kQ,ax (by omega)]
end Pr
namespace Pr
open Rf Cr
open gI (cut fK h_ bz gu bQ gQ fO dw rC lets Bv)
theorem lG.cut{s:ByteArray}{p:Nat}{l:List UInt8}(h:lG s p l):cut s p l.length=l:=by
 apply List.ext_getElem?;intro i;rcases bW i l.length with hi|hi
 ·have a:p+i<s.data.toList.length:=by have:=h.1;simp;show p+i<s.size;omega
  unfold gI.cut;rw[dh hi,gJ,aB a,aB hi];refine jo some (UInt8.toNat_inj.1 ?_);have:=h.2 i hi;unfold aF at this;rw[ag,aB a,ag,aB hi]at this;exact this
 ·rw[dD hi,dD (by rw[fK s p l.length h.1];exact hi)]
theorem lG.fG{s:ByteArray}{p n:Nat}{l:List UInt8}(h:lG s p l)(a:n=l.length):fG s p n=⟨l.toArray⟩:=by subst a;unfold Pr.fG;rw[h.cut]
theorem lG.four{s:ByteArray}{p n:Nat}(h:lG s p (bQ n))(e:n<4294967296):bz s p=n:=by have a:=h.2 0 (by simp[bQ]);have b:=h.2 1 (by simp[bQ]);have c:=h.2 2 (by simp[bQ]);have d:=h.2 3 (by simp[bQ]);simp[bQ]at a b c d;unfold bz;rw[a,b,c,d];omega
def qV(kind data:List UInt8):List UInt8:=bQ data.length++(kind++(data++bQ (gQ (kind++data))))
theorem qK(n:Nat):(bQ n).length=4:=rfl
theorem l_(kind data:List UInt8):(qV kind data).length=8+kind.length+data.length:=by simp[qV,qK];omega
def isKind(k:List UInt8):Prop:=k.length=4/\∀i,i<4->dw (k.getD i 0).toNat i=true
theorem BC{s:ByteArray}{p:Nat}{kind data:List UInt8}(h:lG s p (qV kind data))(a:isKind kind)(hd:data.length<=2147483647):
 rC s p/\bz s p=data.length/\fG s (p+4) 4=⟨kind.toArray⟩/\fG s (p+8) data.length=⟨data.toArray⟩/\VM s p=p+(qV kind data).length:=by
 have h0:lG s p (bQ data.length):=h.left;have h1:lG s (p+4) (kind++(data++bQ (gQ (kind++data)))):=h.right;have h2:lG s (p+4) kind:=h1.left;have e:lG s (p+8) (data++bQ (gQ (kind++data))):=by have:=h1.right;rw[a.1]at this;exact this
 have f:lG s (p+8) data:=e.left;have g:lG s (p+8+data.length) (bQ (gQ (kind++data))):=e.right;have b:=h0.four (by omega);have j:=g.four (fO _);have c:=h.1;rw[l_,a.1]at c;have d:lG s (p+4) (kind++data):=by
  have:kind++(data++bQ (gQ (kind++data)))=(kind++data)++bQ (gQ (kind++data)):=by rw[bI]
  rw[this]at h1;exact h1.left
 refine⟨⟨by omega,by rw[b];exact hd,by rw[b];omega,fun i hi=> ?_,?_⟩,b,h2.fG a.1.symm,f.fG rfl,?_⟩
 ·rw[h2.2 i (by rw[a.1];exact hi)];exact a.2 i hi
 ·unfold Bv;have hcut:=d.cut;rw[aK,a.1,Nat.add_comm 4 data.length]at hcut;rw[b,hcut];exact j
 ·unfold VM;rw[b,l_,a.1];omega
def DL:List UInt8:=[73,68,65,84]
def rE:List UInt8:=[73,69,78,68]
def yt:List UInt8:=[80,76,84,69]
def uM:List UInt8:=[116,82,78,83]
def tX:List UInt8:=[73,72,68,82]
theorem Ou{a b c d:UInt8}(h:(dw a.toNat 0&&dw b.toNat 1&&dw c.toNat 2&&dw d.toNat 3)=true):isKind [a,b,c,d]:=by
 simp only[Bool.and_eq_true]at h;refine⟨rfl,fun i hi=> ?_⟩;rcases(by omega:i=0\/i=1\/i=2\/i=3)with rfl|rfl|rfl|rfl
 ·exact h.1.1.1
 ·exact h.1.1.2
 ·exact h.1.2
 ·exact h.2
theorem ZA:isKind DL:=Ou (by decide)
theorem ZC:isKind rE:=Ou (by decide)
theorem ZE:isKind yt:=Ou (by decide)
theorem ZF:isKind uM:=Ou (by decide)
theorem ZG:isKind tX:=Ou (by decide)
def nP:List (List UInt8)->List UInt8
 | []=>[]
 |d::ds=>qV DL d++nP ds
theorem VY(a:ByteArray)(l:List UInt8):a++(⟨l.toArray⟩:ByteArray)=⟨(a.data.toList++l).toArray⟩:=by apply gK;simp
theorem ZH{s:ByteArray}{K D:Nat}(ds:List (List UInt8)):∀x:PS,lG s x.pos (nP ds++qV rE [])->x.pos+(nP ds++qV rE []).length=s.size->x.jQ<=1->(K=3->x.pb=true)->(ds=[]->x.jQ=1)->(∀d∈ds,d.length<=2147483647)->
 Ia s K D x ⟨x.pos+(nP ds).length,1,x.pl,x.tr,x.pb,x.tb,⟨(x.da.data.toList++ds.flatten).toArray⟩⟩:=by
 induction ds with
 |nil=>
  intro x h j i hK h1 _;obtain⟨c1,c2,c3,c4,c5⟩:=BC (s:=s) (p:=x.pos) (kind:=rE) (data:=[]) h ZC (by simp);have e:x=(⟨x.pos+(nP []).length,1,x.pl,x.tr,x.pb,x.tb,⟨(x.da.data.toList++([]:List (List UInt8)).flatten).toArray⟩⟩:PS):=by obtain⟨a,b,c,d,e,f,g⟩:=x;have:=h1 rfl;dsimp only at this|-;subst this;simp[nP]
  rw[<-e];exact .done c1 c3 (by rw[h1 rfl];exact ah _) c2 (by rw[<-j];simp[nP,l_,rE])
 |cons d ds l=>intro x h j i hK _ hd;have k:=hd d (zl ..);rw[nP,bI]at h j;obtain⟨c1,c2,c3,c4,c5⟩:=BC (s:=s) (p:=x.pos) (kind:=DL) (data:=d) h.left ZA k;have m:=h.right;refine .VF c1 c3 i hK ?_;rw[c2,c4,c5,VY];have:=l ⟨x.pos+(qV DL d).length,1,x.pl,x.tr,x.pb,x.tb,⟨(x.da.data.toList++d).toArray⟩⟩ m (by rw[<-j];simp only[List.length_append];omega) (ah _) hK (fun _=>rfl) (fun y n=>hd y (lS _ n));dsimp only at this;rw[nP,aK,<-dK,List.flatten_cons,<-bI];exact this
theorem ZI{s:ByteArray}{K D:Nat}{x y:PS}(pl:List UInt8)(h:lG s x.pos (qV yt pl))(hp:plD K D x pl.length)(b:pl.length<=768)
 (a:Ia s K D ⟨x.pos+(qV yt pl).length,x.jQ,⟨pl.toArray⟩,x.tr,true,x.tb,x.da⟩ y):Ia s K D x y:=by
 obtain⟨c1,c2,c3,c4,c5⟩:=BC h ZE (by omega);refine .VN c1 c3 (by rw[c2];exact hp) ?_;rw[c2,c4,c5];exact a
theorem ZJ{s:ByteArray}{K D:Nat}{x y:PS}(tr:List UInt8)(h:lG s x.pos (qV uM tr))(a:x.jQ=0)(b:x.tb=false)(hp:trD K D x ⟨tr.toArray⟩)(d:tr.length<=768)
 (c:Ia s K D ⟨x.pos+(qV uM tr).length,x.jQ,x.pl,⟨tr.toArray⟩,x.pb,true,x.da⟩ y):Ia s K D x y:=by
 obtain⟨c1,c2,c3,c4,c5⟩:=BC h ZF (by omega);refine .VO c1 c3 a b (by rw[c2,c4];exact hp) ?_;rw[c2,c4,c5];exact c
theorem BD(l:List UInt8):lG ⟨l.toArray⟩ 0 l:=by refine⟨by show 0+l.length<=l.toArray.size;simp,fun i hi=> ?_⟩;unfold aF;simp
def mg(W H D K I:Nat):List UInt8:=bQ W++(bQ H++[UInt8.ofNat D,UInt8.ofNat K,0,0,UInt8.ofNat I])
theorem vV(W H D K I:Nat):(mg W H D K I).length=13:=rfl
def zN:List UInt8:=[137,80,78,71,13,10,26,10]
theorem Ro{s:ByteArray}{p:Nat}{l:List UInt8}(h:lG s p l):Match s p ⟨l.toArray⟩:=by
 refine⟨by show p+l.toArray.size<=s.size;rw[AA];exact h.1,fun i hi=> ?_⟩;have a:i<l.length:=by have e:(⟨l.toArray⟩:ByteArray).size=l.length:=AA ..;rw[e]at hi;exact hi
 rw[h.2 i a];unfold aF;simp
end Pr
namespace Pr
open Rf
open gI (dL b_ lV)
structure Wk where
 W:Nat
 H:Nat
 D:Nat
 K:Nat
 I:Bool
 E:List Nat
 C:List Nat
 S:List Nat
structure Wk.Ok(p:Wk):Prop where
 w1:1<=p.W
 w2:p.W<=20
 h1:1<=p.H
 h2:p.H<=20
 kd:(p.K=0/\eG p.D)\/(p.K=3/\(p.D=1\/p.D=2\/p.D=4\/p.D=8))\/((p.K=2\/p.K=4\/p.K=6)/\(p.D=8\/p.D=16))
 sl:p.S.length=p.W*p.H*aT p.K
 sx:∀x∈p.S,x<2^p.D
 e3:p.K=3->1<=p.E.length/\p.E.length<=256/\p.E.length<=2^p.D/\(∀x∈p.S,x<p.E.length)/\(∀c∈p.C,c<=255)/\p.C.length<=p.E.length
 c0:(p.K=0\/p.K=2)->p.C=[]\/(p.C.length=aT p.K/\∀c∈p.C,c<2^p.D)
 c4:(p.K=4\/p.K=6)->p.C=[]
def nI(s D:Nat):Nat:=if D=1 then s*65535 else if D=2 then s*21845 else if D=4 then s*4369 else if D=8 then s*257 else s
theorem Ov(s D:Nat)(hD:eG D)(h:s<2^D):dL s D=nI s D:=by
 unfold dL nI;rcases hD with rfl|rfl|rfl|rfl|rfl
 ·have:pw 1=2:=rfl;rw[this];simp at h|-;omega
 ·have:pw 2=4:=rfl;rw[this];simp at h|-;omega
 ·have:pw 4=16:=rfl;rw[this];simp at h|-;omega
 ·have:pw 8=256:=rfl;rw[this];simp at h|-;omega
 ·have:pw 16=65536:=by decide
  rw[this];simp at h|-;omega
def Wk.X(p:Wk)(i:Nat):List Nat:=(p.S.drop (i*aT p.K)).take (aT p.K)
def Wk.q(p:Wk)(i:Nat):qZ:=
 if p.K=3 then(257*(p.E.getD ((p.X i).getD 0 0) 0/65536%256),257*(p.E.getD ((p.X i).getD 0 0) 0/256%256),257*(p.E.getD ((p.X i).getD 0 0) 0%256),if(p.X i).getD 0 0<p.C.length then 257*p.C.getD ((p.X i).getD 0 0) 0 else 65535)
 else if p.K=4 then(nI ((p.X i).getD 0 0) p.D,nI ((p.X i).getD 0 0) p.D,nI ((p.X i).getD 0 0) p.D,nI ((p.X i).getD 1 0) p.D)
 else if p.K=6 then(nI ((p.X i).getD 0 0) p.D,nI ((p.X i).getD 1 0) p.D,nI ((p.X i).getD 2 0) p.D,nI ((p.X i).getD 3 0) p.D)
 else if p.K=0 then(nI ((p.X i).getD 0 0) p.D,nI ((p.X i).getD 0 0) p.D,nI ((p.X i).getD 0 0) p.D,if p.X i=p.C then 0 else 65535)
 else(nI ((p.X i).getD 0 0) p.D,nI ((p.X i).getD 1 0) p.D,nI ((p.X i).getD 2 0) p.D,if p.X i=p.C then 0 else 65535)
def BF:List Nat->List UInt8
 | []=>[]
 |e::l=>UInt8.ofNat (e/65536)::UInt8.ofNat (e/256)::UInt8.ofNat e::BF l
theorem qP(l:List Nat):(BF l).length=3*l.length:=by
 induction l with
 |nil=>rfl
 |cons e l a=>simp only[BF,List.length_cons,a];omega
theorem abV(a b:List Nat):BF (a++b)=BF a++BF b:=by
 induction a with
 |nil=>rfl
 |cons e a c=>simp only[BF,List.cons_append,c]
theorem ac9(l:List Nat)(j:Nat)(h:j<l.length):((BF l).getD (3*j) 0).toNat=l.getD j 0/65536%256/\((BF l).getD (3*j+1) 0).toNat=l.getD j 0/256%256/\((BF l).getD (3*j+2) 0).toNat=l.getD j 0%256:=by
 induction l generalizing j with
 |nil=>simp at h
 |cons e l a=>
  cases j with
  |zero=>simp[BF]
  |succ j=>have:=a j (by simpa using h);rw[show 3*(j+1)=3*j+3 by omega];simpa [BF]using this
def Ox:List Nat->List UInt8
 | []=>[]
 |c::l=>UInt8.ofNat (c/256)::UInt8.ofNat c::Ox l
theorem TE(l:List Nat):(Ox l).length=2*l.length:=by
 induction l with
 |nil=>rfl
 |cons e l a=>simp only[Ox,List.length_cons,a];omega
theorem abW(a b:List Nat):Ox (a++b)=Ox a++Ox b:=by
 induction a with
 |nil=>rfl
 |cons e a c=>simp only[Ox,List.cons_append,c]
theorem ZK(l:List Nat)(j:Nat)(h:j<l.length)(a:∀c∈l,c<65536):256*((Ox l).getD (2*j) 0).toNat+((Ox l).getD (2*j+1) 0).toNat=l.getD j 0:=by
 induction l generalizing j with
 |nil=>simp at h
 |cons e l b=>
  cases j with
  |zero=>have:=a e (zl ..);simp[Ox];omega
  |succ j=>have:=b j (by simpa using h) (fun c d=>a c (lS _ d));rw[show 2*(j+1)=2*j+2 by omega];simpa [Ox]using this
def Wk.tr(p:Wk):List UInt8:=if p.K=3 then p.C.map UInt8.ofNat else Ox p.C
theorem jg(l:List UInt8)(i:Nat):aF ⟨l.toArray⟩ i=(l.getD i 0).toNat:=by unfold aF;simp
theorem fF(l:List UInt8):(⟨l.toArray⟩:ByteArray).size=l.length:=AA ..
theorem Wk.Ok.depth{p:Wk}(h:p.Ok):eG p.D:=by have:=h.kd;unfold eG at*;omega
theorem Wk.Ok.kinds{p:Wk}(h:p.Ok):p.K=0\/p.K=2\/p.K=3\/p.K=4\/p.K=6:=by have:=h.kd;omega
theorem Wk.Ok.pow{p:Wk}(h:p.Ok):2^p.D<=65536:=by rcases h.depth with e|e|e|e|e<;>rw[e]<;>decide
theorem Wk.Ok.Oy{p:Wk}(h:p.Ok){i:Nat}(hi:i<p.W*p.H):(p.X i).length=aT p.K:=by unfold Wk.X;rw[eH,jm,h.sl];have h1:(i+1)*aT p.K<=p.W*p.H*aT p.K:=dM _ hi;rw[eF,m_]at h1;omega
theorem Wk.Ok.adP{p:Wk}(h:p.Ok)(i:Nat):∀x∈p.X i,x<2^p.D:=fun x a=>h.sx x (List.mem_of_mem_drop (oV a))
theorem nT{l:List Nat}{b:Nat}(h:∀x∈l,x<b)(hb:0<b)(i:Nat):l.getD i 0<b:=by
 rcases bW i l.length with hi|hi
 ·rw[ag,aB hi];exact h _ (wo hi)
 ·rw[ag,dD hi];exact hb
theorem Ap{a b:List Nat}(c:a.length=b.length)(h:∀i,i<a.length->b.getD i 0=a.getD i 0):a=b:=by apply List.ext_getElem c;intro i h1 h2;have:=h i h1;rw[ag,aB h2,ag,aB h1]at this;exact this.symm
theorem Wk.Ok.DZ{p:Wk}(h:p.Ok){i:Nat}(hi:i<p.W*p.H):VK p.K p.D ⟨(BF p.E).toArray⟩ ⟨p.tr.toArray⟩ (decide (p.C≠[])) (p.X i)=some (p.q i):=by
 have hD:=h.depth;have g:0<2^p.D:=kS _;have hw:∀j,dL ((p.X i).getD j 0) p.D=nI ((p.X i).getD j 0) p.D:=fun j=>Ov _ _ hD (nT (h.adP i) g j);have u:=h.Oy hi;have b:(p.K=0\/p.K=2)->((decide (p.C≠[])=true/\∀j,j<(p.X i).length->256*aF ⟨p.tr.toArray⟩ (2*j)+aF ⟨p.tr.toArray⟩ (2*j+1)=(p.X i).getD j 0)↔p.X i=p.C):=by
  intro B;have P:1<=aT p.K:=by rcases B with e|e<;>rw[e]<;>decide
  have w:p.K≠3:=by omega
  rcases h.c0 B with m|⟨d,y⟩
  ·constructor
   ·rintro⟨h1,_⟩;rw[m]at h1;simp at h1
   ·intro e;rw[m]at e;rw[e]at u;simp at u;omega
  ·have z:∀c∈p.C,c<65536:=fun c m=>aN (y c m) h.pow;have F:∀j,j<p.C.length->256*aF ⟨p.tr.toArray⟩ (2*j)+aF ⟨p.tr.toArray⟩ (2*j+1)=p.C.getD j 0:=fun j n=>by
    rw[jg,jg];unfold Wk.tr;rw[ax w];exact ZK p.C j n z
   constructor
   ·rintro⟨_,h2⟩;exact Ap (by rw[u,d]) (fun j n=>by rw[<-h2 j n,F j (by omega)])
   ·intro e;refine⟨by rw[lX];intro G;rw[G]at d;simp at d;omega,fun j n=> ?_⟩;rw[F j (by omega),e]
 unfold VK Wk.q;by_cases f:p.K=3
 ·obtain⟨Q,G,R,I,J,S⟩:=h.e3 f;have o:(p.X i).getD 0 0<p.E.length:=nT (fun x o=>I x (List.mem_of_mem_drop (oV o))) (by omega) 0;rw[aG f,aG f,fF,qP,ax (by omega),jg,jg,jg,fF];generalize (p.X i).getD 0 0=x at o|-;obtain⟨L,M,N⟩:=ac9 p.E x o;rw[L,M,N];have r:∀v,v%256=v->dL v 8=257*v:=fun v T=>by rw[Ov v 8 (by unfold eG;omega) (by show v<256;omega)];simp[nI];omega
  rw[r _ (by omega),r _ (by omega),r _ (by omega)];have A:p.tr.length=p.C.length:=by unfold Wk.tr;rw[aG f];simp
  rw[A];by_cases a:x<p.C.length
  ·rw[aG a,aG a,jg];have k:p.C.getD x 0<=255:=oq J x;have:(p.tr.getD x 0).toNat=p.C.getD x 0:=by
    unfold Wk.tr;rw[aG f];rw[ag,fH,aB a];rw[ag,aB a]at k|-;simp at k|-;omega
   rw[this,r _ (by omega)]
  ·rw[ax a,ax a]
 ·rw[ax f,ax f];by_cases s:p.K=4
  ·rw[aG s,aG s,hw,hw]
  rw[ax s,ax s];by_cases t:p.K=6
  ·rw[aG t,aG t,hw,hw,hw,hw]
  rw[ax t,ax t];by_cases l:p.K=0
  ·rw[aG l,aG l,hw];simp only[b (.inl l)]
  ·have O:p.K=2:=by have:=h.kinds;omega
   rw[ax l,ax l,hw,hw,hw];simp only[b (.inr O)]
end Pr
namespace Pr
open Go.RowKit Rf Cr
theorem wZ{w X:af}(h:aA w.heap.size w X)(v0 v1 v2:ay):aA w.heap.size w (((X.setCell ⟨w.heap.size,0,none⟩ v0).setCell ⟨w.heap.size,1,none⟩ v1).setCell ⟨w.heap.size,2,none⟩ v2):=dW (dW (dW h _ _ (ah _) _) _ _ (ah _) _) _ _ (ah _) _
theorem VZ(b:ByteArray)(limit:Nat)(sl:ay)(L:List Int)(s:ByteArray)(w:af)(eb fb lb:bG)(hD:KT w eb fb lb)(J:gq w w.heap.size sl L)(M:aec b L s)(b5:b.size<=140737488354000)(b6:s.size<=140737488354000)(h1:1<=limit)(h2:limit<=1048576):
 aH prog 20 #[.string b,.int .i64 (limit:Int),sl] w fun e w'=>adR b limit L s w e w'/\aA w.heap.size w w':=by
 obtain⟨D,r⟩:∃D:Ce,D=⟨w.heap.size+2,w.heap.size+1,w.heap.size,b,sl,L,eb,fb,lb⟩:=⟨_,rfl⟩;obtain⟨la,cap,b7,b8,-⟩:=id J;have z:aA w.heap.size w (((w.alloc (.cells ou 35)).alloc (zq b sl 0)).alloc (JE (w.heap.size+1) 0)):=(((aV _ _).alloc (ah _) _).alloc (by simp) _).alloc (by simp;omega) _;have a0:(((w.alloc (.cells ou 35)).alloc (zq b sl 0)).alloc (JE (w.heap.size+1) 0)).heap[w.heap.size]?=some (.cells ou 35 (0,0)):=(ai _ _ _ (by simp;omega)).trans ((ai _ _ _ (by simp)).trans (aP w _));have a1:(((w.alloc (.cells ou 35)).alloc (zq b sl 0)).alloc (JE (w.heap.size+1) 0)).heap[w.heap.size+1]?=some (zq b sl 0):=by
  have:=aP (w.alloc (.cells ou 35)) (zq b sl 0);have e:(w.alloc (.cells ou 35)).heap.size=w.heap.size+1:=by simp
  rw[e]at this;exact(ai _ _ _ (by simp)).trans this
 have a2:(((w.alloc (.cells ou 35)).alloc (zq b sl 0)).alloc (JE (w.heap.size+1) 0)).heap[w.heap.size+2]?=some (JE (w.heap.size+1) 0):=by
  have:=aP ((w.alloc (.cells ou 35)).alloc (zq b sl 0)) (JE (w.heap.size+1) 0);have e:((w.alloc (.cells ou 35)).alloc (zq b sl 0)).heap.size=w.heap.size+2:=by simp
  rw[e]at this;exact this
 have hK:Dp D (((w.alloc (.cells ou 35)).alloc (zq b sl 0)).alloc (JE (w.heap.size+1) 0)) 0 0:=by rw[r];exact⟨a2,by show _=some (zq (b.extract 0 b.size) sl 0);rw[ByteArray.extract_zero_size];exact a1,J.over (fun k y=>z.block k y),hD.pI.over (fun k y=>z.block k y),aX _,aX _,Nat.le_succ _,by show w.heap.size<=w.heap.size+2;omega,b5⟩
 have V:xK D s:=by rw[r];exact M
 have a3:=Xz D s V (by rw[r];exact hD.ng) hK.bs hK.bg;have a4:=KA D s V;have a5:ja (((w.alloc (.cells ou 35)).alloc (zq b sl 0)).alloc (JE (w.heap.size+1) 0)) eb (uD D s).fb lb (uD D s).base:=by rw[r];exact hD.pI.over (fun k y=>z.block k y)
 have a6:=hD.ng;have W:au _:=ZM (uD D s) a3 s _ limit eb lb _ a4 ⟨rfl,0,rfl,hK⟩ a5 (wI hD.tab a6 (fun k y=>z.block k y)) (hD.ord.over (z.block _ (by omega))) (fun i hi=>(aQ (z.block _ (by omega))).trans (hD.sml i hi)) h2 b6;have N:(uD D s).base=w.heap.size:=by rw[r];rfl
 have a7:(uD D s).fb=fb:=by rw[r];rfl
 have ea:(uD D s).a=⟨w.heap.size+2,0,none⟩:=by rw[r];rfl
 have a8:(s=D.b/\∃k,nY D.L s.size=some k)=(s=b/\∃k,nY L s.size=some k):=by rw[r]
 have U:(uD D s).rP=∃t,t<b.size/\nY L (t+1)=none:=by rw[r];rfl
 have a9:∀w',aA w.heap.size w w'->xI w':=fun w' hb=>hD.Sl.over (fun k y=>hb.block k (by omega));have b0:∀w',aA w.heap.size w w'->ja w' eb fb lb w.heap.size:=fun w' hb=>hD.pI.over (fun k y=>hb.block k y);have b1:au _:=a9;have b2:au _:=b0;have u:au _:=a0;have G:au _:=z;have b3:au ((∃w0,(uD D s).K w0 s 33)->∃k,nY L 33=some k):=(fun h=>by obtain⟨w0,_,k,y,_⟩:=h;rw[r]at y;exact⟨k,y⟩:_->_);have A:au _:=(⟨N,a7,a8,U⟩:_/\_/\_/\_);obtain⟨S,hS⟩:∃S,S=uD D s:=⟨_,rfl⟩;rw[<-hS]at W A b3;have eT:(uD D s).T=68:=rfl;rw[<-hS]at eT ea;have l:au (aH prog 32 #[.iface 68 (.pointer (some ⟨w.heap.size+2,0,none⟩)),.int .i64 (limit:Int)] (((w.alloc (.cells ou 35)).alloc (zq b sl 0)).alloc (JE (w.heap.size+1) 0)) (acz S s limit lb (s=D.b/\∃k,nY D.L s.size=some k) (((w.alloc (.cells ou 35)).alloc (zq b sl 0)).alloc (JE (w.heap.size+1) 0)))):=(by have:=W.out;rw[eT,ea]at this;exact this:aH _ _ _ _ _);clear hD J M z a0 a1 a2 hK V a3 a4 a5 a6 W N a7 ea a8 U a9 b0 hS eT;subst b7;obtain⟨n,hn⟩:∃n,n=L.length:=⟨_,rfl⟩;rw[<-hn]at l u G|-;clear hn b8;unfold ou at*;have l1:¬((limit:Int)<1):=by omega
 have l2:¬((1048576:Int)<(limit:Int)):=by omega
 go_enter func20,ntmps20
 go_wp2_with fail
 refine(KQ b la n cap _).mono ?_;rintro e w1 ⟨rfl,b9⟩;subst b9;go_wp2_with fail
 refine(KR _ _).mono ?_;rintro e w2 ⟨rfl,X⟩;rw[<-X]at l u G;have b4:w2.heap.size=w.heap.size+3:=by rw[X];simp
 have c1:au _:=b4;have e2:((w.alloc (.cells #[.int .i64 0,.int .i64 0,.slice none 0 0] 35)).alloc (zq b (.slice la n cap) 0)).heap.size=w.heap.size+2:=by simp
 simp only[e2];clear e2 X b4;go_wp2_with fail
 refine aU l.out ?_;rintro e w3 (⟨P1,st,t,P2,f,gp,C,H,E,q4,rfl,q5,q6,q7⟩|⟨C,⟨T,a,rfl,H⟩,E⟩|⟨⟨T,a,rfl,C⟩,E⟩)
 ·have d:=(q7.other _ _ _ _ u.out (by decide)).trans u.out;have o:=ak d;have g:aA w.heap.size w w3:=jd G.out (by have:=q7.below;rw[A.out.1]at this;exact this);have c:(w3.alloc (.cells #[.int .i64 (hW s:Int),.int .i64 (hH s:Int),.slice (some ⟨gp,0,none⟩) (4*hW s*hH s) (4*hW s*hH s)] 35)).heap[w.heap.size]?=some (.cells #[.int .i64 0,.int .i64 0,.slice none 0 0] 35 (0,0)):=(ai _ _ _ o).trans d;have x:au (aA w.heap.size w (w3.alloc (.cells #[.int .i64 (hW s:Int),.int .i64 (hH s:Int),.slice (some ⟨gp,0,none⟩) (4*hW s*hH s) (4*hW s*hH s)] 35))):=(g.alloc g.size _:aA _ _ _);have c2:au _:=(ai w3 (.cells #[.int .i64 (hW s:Int),.int .i64 (hH s:Int),.slice (some ⟨gp,0,none⟩) (4*hW s*hH s) (4*hW s*hH s)] 35) gp (ak q5)).trans q5;have HQ:au _:=(⟨C,H,(A.out.2.2.1▸E:s=b/\∃k,nY L s.size=some k),q4⟩:_/\_/\_/\_);have HG:au (w.heap.size<gp):=(by have:=c1.out;omega:_<_);have Y:(w3.alloc (.cells #[.int .i64 (hW s:Int),.int .i64 (hH s:Int),.slice (some ⟨gp,0,none⟩) (4*hW s*hH s) (4*hW s*hH s)] 35)).cell? ⟨w.heap.size,0,none⟩=some (.int .i64 0):=by simpa using(cell_of c 0).1
  have Z:(w3.alloc (.cells #[.int .i64 (hW s:Int),.int .i64 (hH s:Int),.slice (some ⟨gp,0,none⟩) (4*hW s*hH s) (4*hW s*hH s)] 35)).cell? ⟨w.heap.size,1,none⟩=some (.int .i64 0):=by simpa using(cell_of c 1).1
  have z2:(w3.alloc (.cells #[.int .i64 (hW s:Int),.int .i64 (hH s:Int),.slice (some ⟨gp,0,none⟩) (4*hW s*hH s) (4*hW s*hH s)] 35)).cell? ⟨w.heap.size,2,none⟩=some (.slice none 0 0):=by simpa using(cell_of c 2).1
  have y0:=(cell_of c 0).2;have y1:=(cell_of c 1).2;have y2:=(cell_of c 2).2;clear d o g c C H E q4 q5 q6 q7 l;go_wp2_with fail
  refine a_ (v:= .tuple #[.agg #[.int .i64 (hW s:Int),.int .i64 (hH s:Int),.slice (some ⟨gp,0,none⟩) (4*hW s*hH s) (4*hW s*hH s)],.int .i64 0]) (by simp[results,results20,go_sem,Y,Z,z2]) rfl ?_;obtain⟨C,H,E,q4⟩:=HQ.out;have hg:=HG.out;refine⟨.inl ⟨P1,st,t,P2,f,gp,C,H,E,q4,rfl,?_,by omega⟩,wZ x.out _ _ _⟩;exact((aC _ _ (by omega)).trans ((aC _ _ (by omega)).trans (aC _ _ (by omega)))).trans c2.out
 ·have d:=(E.other _ _ _ _ u.out (by decide)).trans u.out;have o:=ak d;have g:aA w.heap.size w w3:=jd G.out (by have:=E.below;rw[A.out.1]at this;exact this);have p:(w3.alloc (.cells #[.int .i64 0,.int .i64 0,.slice none 0 0] 35)).heap[w.heap.size]?=some (.cells #[.int .i64 0,.int .i64 0,.slice none 0 0] 35 (0,0)):=(ai _ _ _ o).trans d;have j:aA w.heap.size w (w3.alloc (.cells #[.int .i64 0,.int .i64 0,.slice none 0 0] 35)):=g.alloc g.size _;have O:au _:=Uo T a eb fb lb w.heap.size (w3.alloc (.cells #[.int .i64 0,.int .i64 0,.slice none 0 0] 35)) (b1.out _ j) (b2.out _ j) j.size (by obtain⟨m,hm⟩:=H;exact⟨m,hm.grow (fun k y=>ai _ _ k y)⟩);have x:au _:=j;have P:au _:=p;have B:=ak p;have I:au _:=C;clear d o g p j C H E l;unfold Aq;have Q:au _:=B;clear B;go_wp2_with fail
  refine aU O.out ?_;rintro e F ⟨rfl,q⟩;have c:=(q.block _ Q.out).trans P.out;have R:au (aA w.heap.size w F):=(jd x.out (q.mono (by have:=kD x.out;omega)):aA _ _ _);have Y:F.cell? ⟨w.heap.size,0,none⟩=some (.int .i64 0):=by simpa using(cell_of c 0).1
  have Z:F.cell? ⟨w.heap.size,1,none⟩=some (.int .i64 0):=by simpa using(cell_of c 1).1
  have z2:F.cell? ⟨w.heap.size,2,none⟩=some (.slice none 0 0):=by simpa using(cell_of c 2).1
  have y0:=(cell_of c 0).2;have y1:=(cell_of c 1).2;have y2:=(cell_of c 2).2;clear c q;go_wp2_with fail
  refine a_ (v:= .tuple #[.agg #[.int .i64 0,.int .i64 0,.slice none 0 0],.int .i64 2]) (by simp[results,results20,go_sem,Y,Z,z2]) rfl ?_;exact⟨.inr (.inl ⟨⟨I.out.1,b3.out I.out.2⟩,rfl⟩),wZ R.out _ _ _⟩
 ·rcases C with⟨C,H⟩|⟨C,H⟩
  ·have d:=(E.other _ _ _ _ u.out (by decide)).trans u.out;have o:=ak d;have g:aA w.heap.size w w3:=jd G.out (by have:=E.below;rw[A.out.1]at this;exact this);have p:(w3.alloc (.cells #[.int .i64 0,.int .i64 0,.slice none 0 0] 35)).heap[w.heap.size]?=some (.cells #[.int .i64 0,.int .i64 0,.slice none 0 0] 35 (0,0)):=(ai _ _ _ o).trans d;have j:aA w.heap.size w (w3.alloc (.cells #[.int .i64 0,.int .i64 0,.slice none 0 0] 35)):=g.alloc g.size _;have O:au _:=Um T a (w3.alloc (.cells #[.int .i64 0,.int .i64 0,.slice none 0 0] 35)) (b1.out _ j) (C.grow (fun k y=>ai _ _ k y));have x:au _:=j;have P:au _:=p;have B:=ak p;have I:au _:=H;clear d o g p j C H E l;unfold Aq;have Q:au _:=B;clear B;go_wp2_with fail
   refine aU O.out ?_;rintro e F ⟨rfl,q⟩;have c:=(q.block _ Q.out).trans P.out;have R:au (aA w.heap.size w F):=(jd x.out (q.mono (by have:=kD x.out;omega)):aA _ _ _);have Y:F.cell? ⟨w.heap.size,0,none⟩=some (.int .i64 0):=by simpa using(cell_of c 0).1
   have Z:F.cell? ⟨w.heap.size,1,none⟩=some (.int .i64 0):=by simpa using(cell_of c 1).1
   have z2:F.cell? ⟨w.heap.size,2,none⟩=some (.slice none 0 0):=by simpa using(cell_of c 2).1
   have y0:=(cell_of c 0).2;have y1:=(cell_of c 1).2;have y2:=(cell_of c 2).2;clear c q;go_wp2_with fail
   refine a_ (v:= .tuple #[.agg #[.int .i64 0,.int .i64 0,.slice none 0 0],.int .i64 3]) (by simp[results,results20,go_sem,Y,Z,z2]) rfl ?_;exact⟨.inr (.inr (.inl ⟨I.out,rfl⟩)),wZ R.out _ _ _⟩
  ·have d:=(E.other _ _ _ _ u.out (by decide)).trans u.out;have o:=ak d;have g:aA w.heap.size w w3:=jd G.out (by have:=E.below;rw[A.out.1]at this;exact this);have p:(w3.alloc (.cells #[.int .i64 0,.int .i64 0,.slice none 0 0] 35)).heap[w.heap.size]?=some (.cells #[.int .i64 0,.int .i64 0,.slice none 0 0] 35 (0,0)):=(ai _ _ _ o).trans d;have j:aA w.heap.size w (w3.alloc (.cells #[.int .i64 0,.int .i64 0,.slice none 0 0] 35)):=g.alloc g.size _;have O:au _:=Un T a fb (w3.alloc (.cells #[.int .i64 0,.int .i64 0,.slice none 0 0] 35)) (ja.fa (b2.out _ j)) (by rw[A.out.2.1]at C;exact C.grow (fun k y=>ai _ _ k y));have x:au _:=j;have P:au _:=p;have B:=ak p;have I:au (∃t,t<b.size/\nY L (t+1)=none):=(A.out.2.2.2▸H:∃t,_);clear d o g p j C H E l;unfold Aq;have Q:au _:=B;clear B;go_wp2_with fail
   refine aU O.out ?_;rintro e F ⟨rfl,q⟩;have c:=(q.block _ Q.out).trans P.out;have R:au (aA w.heap.size w F):=(jd x.out (q.mono (by have:=kD x.out;omega)):aA _ _ _);have Y:F.cell? ⟨w.heap.size,0,none⟩=some (.int .i64 0):=by simpa using(cell_of c 0).1
   have Z:F.cell? ⟨w.heap.size,1,none⟩=some (.int .i64 0):=by simpa using(cell_of c 1).1
   have z2:F.cell? ⟨w.heap.size,2,none⟩=some (.slice none 0 0):=by simpa using(cell_of c 2).1
   have y0:=(cell_of c 0).2;have y1:=(cell_of c 1).2;have y2:=(cell_of c 2).2;clear c q;go_wp2_with fail
   refine a_ (v:= .tuple #[.agg #[.int .i64 0,.int .i64 0,.slice none 0 0],.int .i64 4]) (by simp[results,results20,go_sem,Y,Z,z2]) rfl ?_;exact⟨.inr (.inr (.inr ⟨I.out,rfl⟩)),wZ R.out _ _ _⟩
theorem V_(P:xU)(t:jX)(k:Nat):∀(y:Nat) (bM l dQ p:List Nat),vO P t k y bM l dQ=some p->p.length=dQ.length:=by
 induction k with
 |zero=>intro y bM l dQ p h;cases h;rfl
 |succ k a=>
  intro y bM l dQ p h;rw[vO]at h;split at h
  ·cases h
  ·obtain⟨q,h1,h2⟩:=Option.bind_eq_some_iff.1 h;exact(a _ _ _ _ _ h2).trans (wR _ _ _ _ _ _ h1)
theorem ZP(P:xU)(a:List jX):∀(l dQ p:List Nat),BB P a l dQ=some p->p.length=dQ.length:=by
 induction a with
 |nil=>intro l dQ p h;cases h;rfl
 |cons t a b=>
  intro l dQ p h;rw[BB]at h;split at h
  ·exact b _ _ _ h
  ·obtain⟨q,h1,h2⟩:=Option.bind_eq_some_iff.1 h;exact(b _ _ _ h2).trans (V_ _ _ _ _ _ _ _ _ h1)
theorem abY{s:ByteArray}{P1:Pt}{st:Cs}{t:jX}{P2:Pt}{f:d_}(h:Way s P1 st t P2)(a:Oe s P1 st t=some f):f.dQ.length=4*hW s*hH s:=by
 have h1:=Oi h.head st t h.first (FN (wU (qp s P1.p P1.left P1.l) (hSz s)).out) (by rw[TA];exact h.rows.1.2.2.1)
 have h2:mJ (Oc (hW s) (hH s) (hD s) (hK s) (hI s) st) (FN (wU (qp s P1.p P1.left P1.l) (hSz s)).out) (rs0 (hD s*aT (hK s)) (4*hW s*hH s) t)=some f:=a;rw[h2]at h1;have:=ZP _ _ _ _ _ h1.symm;rw[this,uj]
structure An where
 e:Int
 W:Nat
 H:Nat
 dQ:List Nat
inductive CY(b:ByteArray)(limit:Int):An->Prop
 |lim:(limit<1\/1048576<limit)->CY b limit ⟨1,0,0,[]⟩
 |ok {P1:Pt} {st:Cs} {t:jX} {P2:Pt} {f:d_}:1<=limit->limit<=1048576->Way b P1 st t P2->((hW b*hH b:Nat):Int)<=limit->Oe b P1 st t=some f->CY b limit ⟨0,hW b,hH b,f.dQ⟩
 |large:1<=limit->limit<=1048576->H0 b->limit<((hW b*hH b:Nat):Int)->CY b limit ⟨2,0,0,[]⟩
 |dV:1<=limit->limit<=1048576->(¬H0 b\/(((hW b*hH b:Nat):Int)<=limit/\¬Good b))->CY b limit ⟨3,0,0,[]⟩
theorem CY.VE{b:ByteArray}{limit:Int}{A B:An}(h:CY b limit A)(g:CY b limit B):A=B:=by
 cases h with
 |lim h1=>
  cases g with
  |lim _=>rfl
  |ok d e=>omega
  |large d e=>omega
  |dV d e=>omega
 |ok h1 h2 c j k=>
  cases g with
  |lim _=>omega
  |ok d e a f i=>obtain⟨rfl,rfl,rfl,rfl⟩:=c.VE a;rw[k]at i;cases i;rfl
  |large d e a f=>omega
  |dV d e a=>
   rcases a with a|a
   ·exact absurd c.head a
   ·exact absurd ⟨_,_,_,_,c⟩ a.2
 |large h1 h2 c j=>
  cases g with
  |lim _=>omega
  |ok d e a f i=>omega
  |large d e a f=>rfl
  |dV d e a=>
   rcases a with a|a
   ·exact absurd c a
   ·omega
 |dV h1 h2 c=>
  cases g with
  |lim _=>omega
  |ok d e a f i=>
   rcases c with c|c
   ·exact absurd a.head c
   ·exact absurd ⟨_,_,_,_,a⟩ c.2
  |large d e a f=>
   rcases c with c|c
   ·exact absurd a c
   ·omega
  |dV _ _ _=>rfl
def vW(base:Nat)(w:af)(la:Option bG)(n:Nat)(L:List Nat):Prop:=L.length=n/\((la=none/\n=0)\/∃gp,la=some ⟨gp,0,none⟩/\mM w gp L/\base<=gp)
def Told(A:An)(w:af)(e:Ending)(w':af):Prop:=∃la n,e= .returned (.tuple #[.agg #[.int .i64 (A.W:Int),.int .i64 (A.H:Int),.slice la n n],.int .i64 A.e])/\vW w.heap.size w' la n A.dQ
theorem told_none(c:Int)(w w':af):Told ⟨c,0,0,[]⟩ w (.returned (.tuple #[Aq,.int .i64 c])) w':=⟨none,0,rfl,rfl,.inl ⟨rfl,rfl⟩⟩
theorem We{b:ByteArray}{P1:Pt}{st:Cs}{t:jX}{P2:Pt}{f:d_}(h:Way b P1 st t P2)(a:Oe b P1 st t=some f){w w':af}{gp:Nat}(hp:mM w' gp f.dQ)(c:w.heap.size<=gp):
 Told ⟨0,hW b,hH b,f.dQ⟩ w (.returned (.tuple #[.agg #[.int .i64 (hW b:Int),.int .i64 (hH b:Int),.slice (some ⟨gp,0,none⟩) (4*hW b*hH b) (4*hW b*hH b)],.int .i64 0])) w':=
 ⟨some ⟨gp,0,none⟩,4*hW b*hH b,rfl,abY h a,.inr ⟨gp,rfl,hp,c⟩⟩
theorem vW.dQ{base n:Nat}{w:af}{la:Option bG}{L:List Nat}(h:vW base w la n L):DR w (.slice la n n) L:=by
 obtain⟨h1,⟨rfl,rfl⟩|⟨gp,rfl,hp,_⟩⟩:=h
 ·rw[gm h1];exact DR.nil w
 ·exact DR.oD hp h1
theorem vW.xu{base n:Nat}{w w':af}{la:Option bG}{L:List Nat}(h:vW base w la n L)(e:∀gp,la=some ⟨gp,0,none⟩->w'.heap[gp]?=w.heap[gp]?):vW base w' la n L:=
 ⟨h.1,h.2.imp id (fun⟨gp,h1,h2,a⟩=>⟨gp,h1,(e gp h1).trans h2,a⟩)⟩
theorem vW.below{base n:Nat}{w w':af}{la:Option bG}{L:List Nat}(h:vW base w la n L)(hb:aA w.heap.size w w'):vW base w' la n L:=
 ⟨h.1,h.2.imp id (fun⟨gp,h1,h2,a⟩=>⟨gp,h1,(hb.block gp (ak h2)).trans h2,a⟩)⟩
theorem Gt(b:ByteArray)(limit:Int)(sl:ay)(L:List Int)(w:af)(eb fb lb:bG)(A:An)(g:CY b limit A)(hD:KT w eb fb lb)(a:gq w w.heap.size sl L)(n:∀t,∃k,nY L t=some k)(d:b.size<=140737488354000):
 aH prog 20 #[.string b,.int .i64 limit,sl] w fun e w'=>Told A w e w'/\aA w.heap.size w w':=by
 by_cases h:limit<1\/1048576<limit
 ·obtain⟨la,cap,rfl,-,-⟩:=a;refine(Rq b limit la _ cap w h).mono ?_;rintro e w' ⟨rfl,hb⟩;rw[g.VE (.lim h)];exact⟨told_none 1 w w',hb⟩
 ·obtain⟨l,rfl⟩:∃l:Nat,limit=l:=⟨limit.toNat,by omega⟩;have h1:(1:Int)<=(l:Int):=by omega
  have h2:(l:Int)<=1048576:=by omega
  refine(VZ b l sl L b w eb fb lb hD a (.inl rfl) d d (by omega) (by omega)).mono ?_;rintro e w' ⟨⟨P1,st,t,P2,f,gp,c,i,r,j,rfl,o,p⟩|⟨⟨⟨c,i⟩,_⟩,rfl⟩|⟨c,rfl⟩|⟨⟨t,c,i⟩,_⟩,hb⟩
  ·rw[g.VE (.ok h1 h2 c (by omega) j)];exact⟨We c j o p,hb⟩
  ·rw[g.VE (.large h1 h2 c (by omega))];exact⟨told_none 2 w w',hb⟩
  ·rw[g.VE (.dV h1 h2 (c.imp id (fun q=>⟨by have:=q.1;omega,q.2⟩)))];exact⟨told_none 3 w w',hb⟩
  ·obtain⟨k,m⟩:=n (t+1);rw[i]at m;cases m
end Pr
namespace Pr
open Rf Cr
open gI (dL b_ lV bQ bz gQ manyN)
open Jo (one)
open Ad (oM)
def Wk.yu(p:Wk)(a k:Nat):Nat->List Nat
 |0=>[]
 |n+1=>Wk.yu p a k n++p.X (a+n*k)
theorem Wk.Ok.Gu{p:Wk}(h:p.Ok)(a k n:Nat)(b:∀i,i<n->a+i*k<p.W*p.H):(p.yu a k n).length=n*aT p.K:=by
 induction n with
 |zero=>simp[Wk.yu]
 |succ n c=>rw[Wk.yu,aK,c (fun i hi=>b i (by omega)),h.Oy (b n (by omega)),eF,m_]
theorem Wk.Ok.TF{p:Wk}(h:p.Ok)(a k n:Nat)(b:∀i,i<n->a+i*k<p.W*p.H)(i j:Nat)(hi:i<n)(f:j<aT p.K):(p.yu a k n).getD (i*aT p.K+j) 0=(p.X (a+i*k)).getD j 0:=by
 induction n with
 |zero=>omega
 |succ n c=>
  have d:=h.Gu a k n (fun i hi=>b i (by omega));rw[Wk.yu,ag];by_cases e:i=n
  ·subst e;rw[fC (by omega),d,show i*aT p.K+j-i*aT p.K=j by omega,<-ag]
  ·have h1:(i+1)*aT p.K<=n*aT p.K:=dM _ (by omega);rw[eF,m_]at h1;rw[dI (by omega),<-ag];exact c (fun i hi=>b i (by omega)) (by omega)
theorem Wk.Ok.abZ{p:Wk}(h:p.Ok)(a k n:Nat):∀x∈p.yu a k n,x<2^p.D:=by
 induction n with
 |zero=>intro x b;cases b
 |succ n c=>
  intro x b;rcases List.mem_append.1 b with b|b
  ·exact c x b
  ·exact h.adP _ x b
def Wk.row(p:Wk)(t:jX)(y:Nat):List Nat:=Am p.D (p.yu ((t.y+y*t.sy)*p.W+t.x) t.sx t.W) (bJ (p.D*aT p.K) t.W)
def Wk.rows(p:Wk)(F:Nat->Nat):List Nat:=uY (p.D*aT p.K) p.row F 0 ((b_ (if p.I=true then 1 else 0)).map (lV p.W p.H))
theorem Wk.Ok.px{p:Wk}(h:p.Ok){st:Cs}(g:Ri p.K st ⟨(BF p.E).toArray⟩ ⟨p.tr.toArray⟩ (decide (p.C≠[]))){t:jX}{I:Nat}(k:t∈(b_ I).map (lV p.W p.H)){y i:Nat}(l:y<t.H)(hi:i<t.W):
 J_ p.K p.D st.E st.C (p.row t y) i=some (p.q ((t.y+y*t.sy)*p.W+(t.x+i*t.sx))):=by
 obtain⟨s,d,rfl⟩:=List.mem_map.1 k;obtain⟨m,n⟩:=Om I s d;have a:∀j,j<(lV p.W p.H s).W->((lV p.W p.H s).y+y*(lV p.W p.H s).sy)*p.W+(lV p.W p.H s).x+j*(lV p.W p.H s).sx<p.W*p.H:=fun j b=>by rw[dK];exact Gp ((uK m).1 b) ((uK n).1 l)
 generalize lV p.W p.H s=t at*;have hlen:=h.Gu _ _ _ a;have e:uo (p.row t y) i (aT p.K) p.D=p.X ((t.y+y*t.sy)*p.W+t.x+i*t.sx):=by
  refine Ap (by rw[pO,h.Oy (a i hi)]) (fun j b=> ?_);rw[pO]at b;have f:i*aT p.K+j<(p.yu ((t.y+y*t.sy)*p.W+t.x) t.sx t.W).length:=by rw[hlen];have h1:(i+1)*aT p.K<=t.W*aT p.K:=dM _ hi;rw[eF,m_]at h1;omega
  have hb:(p.yu ((t.y+y*t.sy)*p.W+t.x) t.sx t.W).length*p.D<=8*bJ (p.D*aT p.K) t.W:=by rw[hlen];unfold bJ;rw[ni,eP (aT p.K) p.D];omega
  have c:=abT p.D (p.yu ((t.y+y*t.sy)*p.W+t.x) t.sx t.W) (bJ (p.D*aT p.K) t.W) (i*aT p.K+j) h.depth f (h.abZ _ _ _) hb;rw[h.TF _ _ _ a i j hi b]at c;rw[<-c];unfold uo Wk.row;simp[List.getD_eq_getElem?_getD,b]
 rw[<-Zp p.K p.D st _ _ _ g h.kinds,e,h.DZ (a i hi),dK]
theorem Wk.Ok.drawn{p:Wk}(h:p.Ok){st:Cs}(b:Ri p.K st ⟨(BF p.E).toArray⟩ ⟨p.tr.toArray⟩ (decide (p.C≠[])))(F:Nat->Nat)(hF:∀y,F y<=4):
 BB (Oc p.W p.H p.D p.K p.I st) ((b_ (if p.I=true then 1 else 0)).map (lV p.W p.H)) (p.rows F) (List.replicate (4*p.W*p.H) 0)=some (pU p.q (p.W*p.H)):=by
 refine VV p.q p.W p.H _ (by split<;>omega) (Oc p.W p.H p.D p.K p.I st) rfl p.row F hF (fun t a y=>⟨?_,?_⟩) (fun t a y c i hi=>h.px b a c hi)
 ·exact Oo _ _ _
 ·exact TD _ _ _
end Pr
namespace Pr
open Rf Cr
open gI (dL b_ lV bQ bz gQ manyN rC zB Oh)
open Jo (one)
open lI (Bq)
open Ad (oM)
def Wk.kJ(p:Wk)(F:Nat->Nat):List UInt8:=(p.rows F).map UInt8.ofNat
theorem Wk.CZ(p:Wk)(F:Nat->Nat):(p.kJ F).length=(p.rows F).length:=by simp[Wk.kJ]
theorem Wk.Wh(p:Wk)(F:Nat->Nat)(hF:∀y,F y<=4):FN (p.kJ F)=p.rows F:=by unfold FN Wk.kJ;rw[List.map_map];refine(List.map_congr_left (fun x a=> ?_)).trans (List.map_id _);have:x<=255:=TC _ _ _ hF _ _ x a;show(UInt8.ofNat x).toNat=x;rw[yX];omega
def nR(size:Nat)(u:List UInt8):List UInt8:=[120,1]++(kQ size u.length u++bQ (one (oM 1 0 u)))
theorem yY(size n:Nat)(l:List UInt8):l.length+5<=(kQ size n l).length/\(kQ size n l).length<=l.length+5*(n+1):=by
 induction n generalizing l with
 |zero=>rw[kQ,vU];omega
 |succ n a=>
  rw[kQ];split
  ·have:=a (l.drop size);rw[aK,vU,eH];rw[jm]at this;omega
  ·rw[vU];omega
theorem adT(l:List UInt8):one (oM 1 0 l)<4294967296:=by have:=Ad.xB l 1 0 (by omega) (by omega);unfold one;omega
theorem ab1(l:List UInt8)(k:Nat):(⟨l.toArray⟩:ByteArray).extract k (⟨l.toArray⟩:ByteArray).size=⟨(l.drop k).toArray⟩:=by apply gK;rw[iE,fF];apply Array.ext';rw[vg,oL];exact dn (by simp)
theorem TG(size most:Nat)(b:1<=size)(a:size<=65535)(u:List UInt8)(hm:u.length<=most):wU ⟨(nR size u).toArray⟩ most=⟨⟨8*(kQ size u.length u).length,false⟩,u⟩:=by
 have c:(⟨(nR size u).toArray⟩:ByteArray).extract 2 (⟨(nR size u).toArray⟩:ByteArray).size=⟨(kQ size u.length u++bQ (one (oM 1 0 u))).toArray⟩:=by rw[ab1];rfl
 unfold wU Bq;rw[c];have d:=BD (kQ size u.length u++bQ (one (oM 1 0 u)));have e:=yY size u.length u;have:=VX ⟨(kQ size u.length u++bQ (one (oM 1 0 u))).toArray⟩ (pw (aF ⟨(nR size u).toArray⟩ 0/16+8)) most size b a u.length u 0 [] (8*(⟨(kQ size u.length u++bQ (one (oM 1 0 u))).toArray⟩:ByteArray).size+1) (by have:1*(u.length+1)<=size*(u.length+1):=dM _ b;omega) d.left (by simpa using hm) (by rw[fF,aK];omega)
 rw[Nat.mul_zero]at this;rw[this,fQ,yD]
theorem ZQ(size most:Nat)(i:1<=size)(d:size<=65535)(u:List UInt8)(hm:u.length=most):WI ⟨(nR size u).toArray⟩ most (fun _=>True):=by
 have hu:=TG size most i d u (by omega);have hlen:(nR size u).length=2+(kQ size u.length u).length+4:=by unfold nR;rw[aK,aK];show 2+(_+4)=_;omega
 have j:=BD (nR size u);have c:lG ⟨(nR size u).toArray⟩ (0+2+(kQ size u.length u).length) (bQ (one (oM 1 0 u))):=by have h1:=lG.right (a:=[120,1]) (b:=kQ size u.length u++bQ (one (oM 1 0 u))) j;exact h1.right
 have e:=c.2 0 (by rw[qK];omega);have f:=c.2 1 (by rw[qK];omega);have g:=c.2 2 (by rw[qK];omega);have h:=c.2 3 (by rw[qK];omega);refine⟨⟨by rw[fF,hlen];omega,?_⟩,by rw[hu],by rw[hu];exact hm,?_,?_,trivial⟩
 ·rw[jg,jg];show nH 120 1;unfold nH;omega
 ·rw[hu];dsimp only;have k:(8*(kQ size u.length u).length+7)/8=(kQ size u.length u).length:=by omega
  rw[k];unfold vS;rw[fF,hlen];rw[fQ]at e f g h;rw[cO]at e;rw[e,f,g,h];unfold bQ;simp
 ·rw[hu];dsimp only;rw[fF,hlen];omega
def Wk.oz(p:Wk):List UInt8:=(if p.K=3 then qV yt (BF p.E)else [])++(if p.C=[]then []else qV uM p.tr)
def Wk.text(p:Wk)(ds:List (List UInt8)):List UInt8:=zN++(qV tX (mg p.W p.H p.D p.K (if p.I=true then 1 else 0))++(p.oz++(nP ds++qV rE [])))
theorem Wk.Ok.may{p:Wk}(h:p.Ok):rW p.K p.D=true:=by
 have:=h.kd;unfold eG at this;rcases this with⟨e,h⟩|⟨e,h⟩|⟨e,h⟩
 ·rcases h with h|h|h|h|h<;>rw[e,h]<;>decide
 ·rcases h with h|h|h|h<;>rw[e,h]<;>decide
 ·rcases e with e|e|e<;>rcases h with h|h<;>rw[e,h]<;>decide
theorem Wk.Ok.small{p:Wk}(h:p.Ok):p.D<=16/\p.K<=6:=by have:=h.kd;unfold eG at this;omega
structure ZR(s:ByteArray)(p:Wk):Prop where
 h0:H0 s
 w:hW s=p.W
 h:hH s=p.H
 d:hD s=p.D
 k:hK s=p.K
 i:hI s=p.I
theorem Wi{s:ByteArray}{p:Wk}(h:p.Ok)(c:lG s 0 (zN++qV tX (mg p.W p.H p.D p.K (if p.I=true then 1 else 0)))):ZR s p:=by
 have o:=h.small;have hw:=h.w1;have q:=h.w2;have v:=h.h1;have r:=h.h2;obtain⟨I,d⟩:∃I:Nat,I=if p.I=true then 1 else 0:=⟨_,rfl⟩
 have e:I<=1:=by rw[d];split<;>omega
 have f:p.I=decide (I=1):=by rw[d];cases p.I<;>rfl
 rw[<-d]at c;have t:lG s 8 (qV tX (mg p.W p.H p.D p.K I)):=by have:=c.right;exact this
 obtain⟨c1,c2,c3,c4,c5⟩:=BC t ZG (by rw[vV];omega);have a:fG s 16 13=⟨(mg p.W p.H p.D p.K I).toArray⟩:=c4;have k:=BD (mg p.W p.H p.D p.K I);have g:bz ⟨(mg p.W p.H p.D p.K I).toArray⟩ 0=p.W:=k.left.four (by omega);have j:bz ⟨(mg p.W p.H p.D p.K I).toArray⟩ 4=p.H:=by have:=(k.right).left.four (by omega);exact this
 have l:aF ⟨(mg p.W p.H p.D p.K I).toArray⟩ 8=p.D:=by rw[jg];show(UInt8.ofNat p.D).toNat=_;rw[yX];omega
 have m:aF ⟨(mg p.W p.H p.D p.K I).toArray⟩ 9=p.K:=by rw[jg];show(UInt8.ofNat p.K).toNat=_;rw[yX];omega
 have n:aF ⟨(mg p.W p.H p.D p.K I).toArray⟩ 12=I:=by rw[jg];show(UInt8.ofNat I).toNat=_;rw[yX];omega
 have b:(⟨(mg p.W p.H p.D p.K I).toArray⟩:ByteArray).size=13:=by rw[fF];rfl
 have hd:CB ⟨(mg p.W p.H p.D p.K I).toArray⟩ 0:=by
  refine⟨⟨⟨by rw[b];omega,by rw[g];omega⟩,by rw[g];omega⟩,⟨⟨by rw[b];omega,by show bz _ 4<=_;rw[j];omega⟩,by show 0<bz _ 4;rw[j];omega⟩,⟨by rw[b];omega,?_⟩,?_,⟨by rw[b];omega,by show aF _ 12<=1;rw[n];exact e⟩⟩
  ·show rW (aF _ 9) (aF _ 8)=true;rw[m,l];exact h.may
  ·refine⟨by rw[b];decide,fun i hi=> ?_⟩;have u:i<2:=hi;rcases(by omega:i=0\/i=1)with rfl|rfl
   ·rw[jg];rfl
   ·rw[jg];rfl
 refine⟨(abG s).2 ⟨Ro c.left,c1,c3,c2,?_⟩,?_,?_,?_,?_,?_⟩
 ·show headD (fG s 16 13);rw[a];exact(CX _ b).2 hd
 ·unfold hW;rw[a];exact g
 ·unfold hH;rw[a];exact j
 ·unfold hD;rw[a];exact l
 ·unfold hK;rw[a];exact m
 ·unfold hI;rw[a,f];show decide (aF _ 12=1)=_;rw[n]
theorem Wk.ac_{p:Wk}(h:p.C=[]):p.tr=[]:=by unfold Wk.tr;rw[h];split<;>rfl
theorem ZT{s:ByteArray}{p:Wk}(h:p.Ok)(ds:List (List UInt8))(w:ds≠[])(y:∀d∈ds,d.length<=2147483647)(k:lG s 33 (p.oz++(nP ds++qV rE [])))(l:33+(p.oz++(nP ds++qV rE [])).length=s.size):
 ∃q pl,Ia s p.K p.D ps0 ⟨q,1,pl,⟨p.tr.toArray⟩,decide (p.K=3),decide (p.C≠[]),⟨ds.flatten.toArray⟩⟩/\(p.K=3->pl=⟨(BF p.E).toArray⟩):=by
 unfold Wk.oz at k l
 have rest:∀(x:PS),x.jQ=0->(p.K=3->x.pb=true)->x.da=ByteArray.empty->lG s x.pos (nP ds++qV rE [])->x.pos+(nP ds++qV rE []).length=s.size->
  ∃q,Ia s p.K p.D x ⟨q,1,x.pl,x.tr,x.pb,x.tb,⟨ds.flatten.toArray⟩⟩:=by
  intro x h1 h2 m z t;have:=ZH (K:=p.K) (D:=p.D) ds x z t (by omega) h2 (fun e=>absurd e w) y;rw[m]at this;exact⟨_,this⟩
 have g:∀(x:PS),x.jQ=0->x.tb=false->x.tr=ByteArray.empty->x.pb=decide (p.K=3)->(p.K=3->x.pl=⟨(BF p.E).toArray⟩)->x.da=ByteArray.empty->lG s x.pos ((if p.C=[]then []else qV uM p.tr)++(nP ds++qV rE []))->x.pos+((if p.C=[]then []else qV uM p.tr)++(nP ds++qV rE [])).length=s.size->
  ∃q,Ia s p.K p.D x ⟨q,1,x.pl,⟨p.tr.toArray⟩,x.pb,decide (p.C≠[]),⟨ds.flatten.toArray⟩⟩:=by
  intro x h1 h2 A m z t n u;by_cases b:p.C=[]
  ·rw[aG b,yD]at n u;obtain⟨q,i⟩:=rest x h1 (fun e=>by rw[m];simp[e]) t n u;refine⟨q,?_⟩;rw[h2,A]at i;rw[Wk.ac_ b,aS (by simp[b])];exact i
  ·rw[ax b]at n u;have J:=h.kinds;have H:p.K≠4/\p.K≠6:=⟨fun e=>b (h.c4 (.inl e)),fun e=>b (h.c4 (.inr e))⟩;have I:0<p.C.length:=List.length_pos_iff.2 b;have o:trD p.K p.D x ⟨p.tr.toArray⟩/\p.tr.length<=768:=by
    by_cases a:p.K=3
    ·obtain⟨B,v,L,M,N,O⟩:=h.e3 a;have f:p.tr.length=p.C.length:=by unfold Wk.tr;rw[aG a];simp
     refine⟨.inl ⟨a,by rw[m];simp[a],by rw[fF,f];omega,?_⟩,by omega⟩;rw[fF,f,z a,fF,qP];omega
    ·have F:p.K=0\/p.K=2:=by omega
     rcases h.c0 F with e|⟨B,v⟩
     ·exact absurd e b
     ·have f:p.tr.length=2*p.C.length:=by unfold Wk.tr;rw[ax a];exact TE _
      have r:zB p.K=aT p.K/\aT p.K<=4:=by rcases F with e|e<;>rw[e]<;>decide
      refine⟨.inr ⟨F,by rw[fF,f,B,r.1],fun j P=> ?_⟩,by omega⟩;rw[r.1]at P;have G:∀c∈p.C,c<65536:=fun c b=>aN (v c b) h.pow;rw[jg,jg];have:=ZK p.C j (by omega) G;unfold Wk.tr;rw[ax a,this];exact nT v (kS _) j
   obtain⟨q,i⟩:=rest ⟨x.pos+(qV uM p.tr).length,x.jQ,x.pl,⟨p.tr.toArray⟩,x.pb,true,x.da⟩ h1 (fun e=>by show x.pb=true;rw[m];simp[e]) t n.right (by rw[<-u];simp only[List.length_append];omega)
   refine⟨q,?_⟩;rw[aZ b];exact ZJ p.tr n.left h1 h2 o.1 o.2 i
 by_cases a:p.K=3
 ·rw[aG a,bI]at k l;obtain⟨B,v,L,M,N,O⟩:=h.e3 a;obtain⟨q,i⟩:=g ⟨33+(qV yt (BF p.E)).length,0,⟨(BF p.E).toArray⟩,ByteArray.empty,true,false,ByteArray.empty⟩ rfl rfl rfl (by simp[a]) (fun _=>rfl) rfl k.right (by
   rw[<-l];simp only[List.length_append];omega)
  refine⟨q,_,?_,fun _=>rfl⟩;rw[aZ a];refine ZI (x:=ps0) (BF p.E) k.left ⟨rfl,rfl,rfl,by omega,by omega,by rw[qP];omega,by rw[qP];omega,by rw[qP];omega,fun _=> ?_⟩ (by rw[qP];omega) i;rw[qP];show 3*p.E.length/3<=2^p.D;omega
 ·rw[ax a,yD]at k l;obtain⟨q,i⟩:=g ps0 rfl rfl rfl (by rw[aS a];rfl) (fun e=>absurd e a) rfl k l;refine⟨q,ps0.pl,?_,fun e=>absurd e a⟩;rw[aS a];exact i
theorem Wk.Ok.size{p:Wk}(h:p.Ok)(F:Nat->Nat):(p.rows F).length=kH (p.D*aT p.K) (dU p.W p.H p.I):=by unfold Wk.rows;rw[Zv,Aj p.W p.H p.I h.w1 h.h1]
theorem Wk.Ok.zn{p:Wk}(h:p.Ok)(F:Nat->Nat):(p.rows F).length<=4000:=by
 rw[h.size F];have hb:p.D*aT p.K<=64:=by
  have h1:p.D<=16:=h.small.1;have h2:aT p.K<=4:=by rcases h.kinds with e|e|e|e|e<;>rw[e]<;>decide
  exact bD h1 h2
 have b:=NM (p.D*aT p.K) hb (dU p.W p.H p.I) (fun t a=>by rw[Aj p.W p.H p.I h.w1 h.h1]at a;have:=(List.mem_filter.1 a).2;simp at this;omega)
 rw[FO p.W p.H p.I]at b;have c:p.W*p.H<=20*20:=bD h.w2 h.h2;omega
theorem ZU{ds:List (List UInt8)}{d:List UInt8}(h:d∈ds):d.length<=ds.flatten.length:=by
 induction ds with
 |nil=>cases h
 |cons x ds a=>
  rw[List.flatten_cons,aK];rcases List.mem_cons.1 h with rfl|h
  ·omega
  ·have:=a h;omega
theorem Wk.Ok.seen{p:Wk}(h:p.Ok)(F:Nat->Nat)(hF:∀y,F y<=4)(size:Nat)(b:1<=size)(c:size<=65535)(ds:List (List UInt8))(n:ds≠[])(a:ds.flatten=nR size (p.kJ F)):
 ZR ⟨(p.text ds).toArray⟩ p/\∃P1 st t P2 f,Way ⟨(p.text ds).toArray⟩ P1 st t P2/\Oe ⟨(p.text ds).toArray⟩ P1 st t=some f/\f.dQ=pU p.q (p.W*p.H):=by
 have g:=BD (p.text ds);have hlen:=fF (p.text ds);obtain⟨s,J⟩:∃s:ByteArray,s=⟨(p.text ds).toArray⟩:=⟨_,rfl⟩;rw[<-J]at g hlen|-;unfold Wk.text at g hlen;have o:lG s 0 (zN++qV tX (mg p.W p.H p.D p.K (if p.I=true then 1 else 0))):=by rw[<-bI]at g;exact g.left
 have r:lG s 33 (p.oz++(nP ds++qV rE [])):=by have:=g.right.right;rw[l_,vV]at this;exact this
 have hH:=Wi h o;have L:=h.zn F;have u:=p.CZ F;have v:∀d∈ds,d.length<=2147483647:=fun d hd=>by have h1:=ZU hd;rw[a]at h1;have h2:=yY size (p.kJ F).length (p.kJ F);unfold nR at h1;rw[aK,aK,qK]at h1;have R:([120,1]:List UInt8).length=2:=rfl;omega
 obtain⟨q,pl,j,x⟩:=ZT h ds n v r (by have M:zN.length=8:=rfl;have N:tX.length=4:=rfl;rw[hlen];simp only[List.length_append,l_,vV,M,N];omega)
 rw[<-hH.k,<-hH.d]at j;obtain⟨P1,st,t,P2,l⟩:=abN hH.h0 j;have z:hSz s=(p.kJ F).length:=by unfold hSz;rw[hH.w,hH.h,hH.d,hH.k,hH.i,u,h.size F]
 have A:Ri p.K st ⟨(BF p.E).toArray⟩ ⟨p.tr.toArray⟩ (decide (p.C≠[])):=by have m:=l.says;rw[hH.k]at m;refine⟨fun e=> ?_,m.Zo,m.zZ⟩;have:=m.lU e;dsimp only at this;rw[x e]at this;exact this
 have B:WI (⟨ds.flatten.toArray⟩:ByteArray) (hSz s) (fun _=>True):=by rw[a];exact ZQ size _ b c _ z.symm
 have G:wU (⟨ds.flatten.toArray⟩:ByteArray) (hSz s)=⟨⟨8*(kQ size (p.kJ F).length (p.kJ F)).length,false⟩,p.kJ F⟩:=by rw[a];exact TG size _ b c _ (by omega)
 obtain⟨f,O,P,Q⟩:=abO hH.h0 l B (dQ:=pU p.q (p.W*p.H)) (by dsimp only;rw[G];dsimp only;rw[p.Wh F hF];unfold Rl hIn;rw[hH.w,hH.h,hH.d,hH.k,hH.i];exact h.drawn A F hF)
 exact⟨hH,P1,st,t,P2,f,O,P,Q⟩
end Pr
namespace Kp
open Go.RowKit Rf Cr
open Pr
open gI (bQ)
open lI (byteCells iM)
open Jo (one)
open Ad (oM)
def pk(c n:Int):Int:=if c<0 then(-(c+1))%n else c%n
theorem rF(c n:Int)(h:0<n):0<=pk c n/\pk c n<n:=by
 unfold pk;split
 ·exact⟨Int.emod_nonneg _ (by omega),Int.emod_lt_of_pos _ h⟩
 ·exact⟨Int.emod_nonneg _ (by omega),Int.emod_lt_of_pos _ h⟩
theorem BG(c n:Int)(w:af)(h0: -9223372036854775808<=c)(h1:c<=9223372036854775807)(a:0<n)(b:n<=9223372036854775807):
 aH prog 10 #[.int .i64 c,.int .i64 n] w fun e w'=>e= .returned (.int .i64 (pk c n))/\w'=w:=by
 by_cases d:c<0
 ·go_enter func10,ntmps10
  go_wp2
  go_ret;refine⟨bP ?_,rfl⟩;unfold pk;rw[aG d,<-Int.neg_tmod,u_ (by omega)]
 ·go_enter func10,ntmps10
  go_wp2
  go_ret;refine⟨bP ?_,rfl⟩;unfold pk;rw[ax (by omega)]
def Bytes(w:af)(b:Nat)(l:List UInt8):Prop:=∀i,i<l.length->w.cell? ⟨b,i,none⟩=some (.int .u8 (((l.getD i 0).toNat:Nat):Int))
theorem conv(w:af)(b cap:Nat)(l:List UInt8)(h:Bytes w b l):(convert 39 9 (.slice (some ⟨b,0,none⟩) l.length cap)).run prog w= .ok (.string ⟨l.toArray⟩) w:=by
 have h1:=run_convert_bytes_arg (P:=prog) w 39 5 underlying39 underlying5 b 0 l.length cap (l.map fun x=>((x.toNat:Nat):Int)) (by simp) (fun i hi=>by rw[fQ,h i hi];simp[List.getD,List.getElem?_eq_getElem hi]) 9 underlying9
 rw[h1];have:strOfNums (l.map fun x=>((x.toNat:Nat):Int))=⟨l.toArray⟩:=by unfold strOfNums;simp[List.map_map,Function.comp_def]
 rw[this]
theorem Oz(w:af)(b n cap:Nat)(l:List UInt8)(a:l.length=n)(h:Bytes w b l):(convert 39 9 (.slice (some ⟨b,0,none⟩) n cap)).run prog w= .ok (.string ⟨l.toArray⟩) w:=by subst a;exact conv w b cap l h
theorem KU(X:List UInt8)(m:Nat)(h:m<X.length):(byteCells X)[m]?=some (.int .u8 (((X.getD m 0).toNat:Nat):Int)):=by simp[byteCells,List.getD_eq_getElem?_getD,List.getElem?_eq_getElem h]
theorem ZV{w:af}{base:Nat}{v:ay}(l:List UInt8)(h:w.ownsRow base 5 1 v l.length (byteCells l))(nq:Nat):(convert 39 9 v).run prog (w.drewN nq)= .ok (.string ⟨l.toArray⟩) (w.drewN nq):=by
 rcases h.2 with⟨rfl,h0⟩|⟨g,cap,cur,rfl,_⟩
 ·have a:l=[]:=gm h0;subst a;exact run_convert_bytes_nil (P:=prog) (w.drewN nq) 39 5 underlying39 underlying5 0 0 9 underlying9
 ·exact conv _ g cap l (fun i hi=>(h.cellAt i (by omega)).trans (KU l i hi))
def acB(n:Nat):Obj:= .cells #[.int .u8 ((n:Int)/16777216),.int .u8 ((n:Int)/65536%256),.int .u8 ((n:Int)/256%256),.int .u8 ((n:Int)%256)] 5
theorem KW(n:Nat)(w:af)(b:n<4294967296):
 aH prog 26 #[.int .i64 (n:Int)] w fun e w'=>e= .returned (.string ⟨(bQ n).toArray⟩)/\w'=w.alloc (acB n):=by
 have a:(convert 39 9 (.slice (some ⟨w.heap.size,0,none⟩) 4 4)).run prog (w.alloc (.cells #[.int .u8 ((n:Int)/16777216),.int .u8 ((n:Int)/65536%256),.int .u8 ((n:Int)/256%256),.int .u8 ((n:Int)%256)] 5))= .ok (.string ⟨(bQ n).toArray⟩) (w.alloc (.cells #[.int .u8 ((n:Int)/16777216),.int .u8 ((n:Int)/65536%256),.int .u8 ((n:Int)/256%256),.int .u8 ((n:Int)%256)] 5)):=
  Oz _ _ 4 4 (bQ n) rfl (fun i hi=>by
   have hi:i<4:=hi;have:=nU w #[.int .u8 ((n:Int)/16777216),.int .u8 ((n:Int)/65536%256),.int .u8 ((n:Int)/256%256),.int .u8 ((n:Int)%256)] 5 (0,0) i;refine this.trans ?_;rcases(by omega:i=0\/i=1\/i=2\/i=3)with rfl|rfl|rfl|rfl
   ·show some (Value.int .u8 ((n:Int)/16777216))=some (.int .u8 (((UInt8.ofNat (n/16777216)).toNat:Nat):Int));rw[dB,show((n:Int)/16777216:Int)=((n/16777216%2^8:Nat):Int)by omega]
   ·show some (Value.int .u8 ((n:Int)/65536%256))=some (.int .u8 (((UInt8.ofNat (n/65536)).toNat:Nat):Int));rw[dB,show((n:Int)/65536%256:Int)=((n/65536%2^8:Nat):Int)by omega]
   ·show some (Value.int .u8 ((n:Int)/256%256))=some (.int .u8 (((UInt8.ofNat (n/256)).toNat:Nat):Int));rw[dB,show((n:Int)/256%256:Int)=((n/256%2^8:Nat):Int)by omega]
   ·show some (Value.int .u8 ((n:Int)%256))=some (.int .u8 (((UInt8.ofNat (n)).toNat:Nat):Int));rw[dB,show((n:Int)%256:Int)=((n%2^8:Nat):Int)by omega])
 go_enter func26,ntmps26
 go_wp2_with fail
 go_ret;exact⟨rfl,rfl⟩
theorem yw(n:Nat)(w:af)(a:n<4294967296):
 aH prog 26 #[.int .i64 (n:Int)] w fun e w'=>e= .returned (.string ⟨(bQ n).toArray⟩)/\aA w.heap.size w w':=
 (KW n w a).mono (fun e w' h=>⟨h.1,by rw[h.2];exact(aV _ _).alloc (ah _) _⟩)
def OA(p o:ByteArray):ByteArray:=(⟨#[120,1]⟩:ByteArray)++p++⟨(bQ (one (oM 1 0 o.data.toList))).toArray⟩
theorem ab2(l:List UInt8):one (oM 1 0 l)<4294967296:=by have:=Ad.xB l 1 0 (by omega) (by omega);unfold one;omega
theorem OB(p o:ByteArray)(w:af)(hp:p.size<=100000000)(h:o.size<=100000000):
 aH prog 14 #[.string p,.string o] w fun e w'=>e= .returned (.string (OA p o))/\aA w.heap.size w w':=by
 have d:o.size<=maxLen:=by unfold maxLen;omega
 have c:=fun w'=>Jo.TP o w' d;have f:=ab2 o.data.toList;have b:65536*(oM 1 0 o.data.toList).2+(oM 1 0 o.data.toList).1=one (oM 1 0 o.data.toList):=rfl;simp only[b]at c;unfold OA;generalize one (oM 1 0 o.data.toList)=A at*;have g:(⟨(bQ A).toArray⟩:ByteArray).size=4:=rfl;have a:=fun w'=>yw A w' f;generalize (⟨(bQ A).toArray⟩:ByteArray)=X at*;clear b d;go_enter func14,ntmps14
 go_wp2_with fail
 refine(c _).mono ?_;rintro e w1 ⟨rfl,rfl⟩;go_wp2_with fail
 refine(a _).mono ?_;rintro e w2 ⟨rfl,hb⟩;clear c a;go_wp2_with fail
 go_ret;exact⟨rfl,hb⟩
end Kp
namespace Kp
open Go.RowKit Rf Cr
open Pr
open gI (bQ gQ fO)
def oP(L:List Int)(i:Nat):Int:=if L.length=0 then 0 else L.getD (i%L.length) 0
theorem yZ(sl:ay)(L:List Int)(i base:Nat)(w:af)(h:gq w base sl L)(hi:i<=1000000):
 aH prog 11 #[sl,.int .i64 (i:Int)] w fun e w'=>e= .returned (.int .i64 (oP L i))/\w'=w:=by
 obtain⟨la,cap,rfl,g,c⟩:=h;obtain⟨n,b⟩:∃n,n=L.length:=⟨_,rfl⟩;by_cases h0:n=0
 ·have d:au (oP L i=0):=(by unfold oP;rw[aG (by omega)]:_=_);rw[<-b];subst h0;clear c b g;go_enter func11,ntmps11
  go_wp2_with fail
  go_ret;exact⟨bP (by rw[d.out]),rfl⟩
 ·obtain⟨a,rfl,m,f,_,_⟩:=c (i%n) (by rw[b];exact jR _ (by omega));have d:au (oP L i=L.getD (i%n) 0):=(by unfold oP;rw[ax (by omega),b]:_=_);have hm:(i:Int).tmod (n:Int)=((i%n:Nat):Int):=by rw[u_ (by omega)];simp
  have k:i%n<n:=jR _ (by omega);have l:((n:Int)==0)=false:=by rw[aI];omega
  rw[<-b]at g|-;clear c b;generalize L.getD (i%n) 0=z at*;generalize i%n=j at*;go_enter func11,ntmps11
  go_wp2_with fail
  go_ret;exact⟨bP (by rw[d.out]),rfl⟩
theorem yx(s D:Nat)(w:af)(hD:eG D)(h:s<2^D):
 aH prog 22 #[.int .i64 (s:Int),.int .i64 (D:Int)] w fun e w'=>e= .returned (.int .u16 ((nI s D:Nat):Int))/\w'=w:=by
 rcases hD with rfl|rfl|rfl|rfl|rfl
 ·have a:au (nI s 1=s*65535):=(rfl:_=_);have b:s<2:=h;clear h;go_enter func22,ntmps22
  go_wp2_with fail
  go_ret;exact⟨bP (by rw[a.out];omega),rfl⟩
 ·have a:au (nI s 2=s*21845):=(rfl:_=_);have b:s<4:=h;clear h;go_enter func22,ntmps22
  go_wp2_with fail
  go_ret;exact⟨bP (by rw[a.out];omega),rfl⟩
 ·have a:au (nI s 4=s*4369):=(rfl:_=_);have b:s<16:=h;clear h;go_enter func22,ntmps22
  go_wp2_with fail
  go_ret;exact⟨bP (by rw[a.out];omega),rfl⟩
 ·have a:au (nI s 8=s*257):=(rfl:_=_);have b:s<256:=h;clear h;go_enter func22,ntmps22
  go_wp2_with fail
  go_ret;exact⟨bP (by rw[a.out];omega),rfl⟩
 ·have a:au (nI s 16=s):=(rfl:_=_);have b:s<65536:=h;clear h;go_enter func22,ntmps22
  go_wp2_with fail
  go_ret;exact⟨bP (by rw[a.out]),rfl⟩
theorem KX(last:Nat)(s:ByteArray)(w:af)(k:last<=1)(f:s.size<=65535):
 aH prog 28 #[.int .i64 (last:Int),.string s] w fun e w'=>e= .returned (.string ⟨(vT last s.data.toList).toArray⟩)/\aA w.heap.size w w':=by
 obtain⟨n,a⟩:∃n,n=s.size:=⟨_,rfl⟩;have c:s.data.toList.length=n:=by rw[a];simp
 obtain⟨X,b⟩:∃X:ByteArray,X=⟨#[UInt8.ofNat last,UInt8.ofNat n,UInt8.ofNat (n/256),UInt8.ofNat (65535-n),UInt8.ofNat ((65535-n)/256)]⟩:=⟨_,rfl⟩;have d:au ((⟨(vT last s.data.toList).toArray⟩:ByteArray)=X++s):=(by rw[b];apply gK;simp[vT,a]:_=_)
 have g:X.size=5:=by rw[b];rfl
 have h:(convert 39 9 (.slice (some ⟨w.heap.size,0,none⟩) 5 5)).run prog (w.alloc (.cells #[.int .u8 ((last:Int)),.int .u8 ((n:Int)%256),.int .u8 ((n:Int)/256),.int .u8 ((65535-(n:Int))%256),.int .u8 ((65535-(n:Int))/256)] 5))= .ok (.string X) (w.alloc (.cells #[.int .u8 ((last:Int)),.int .u8 ((n:Int)%256),.int .u8 ((n:Int)/256),.int .u8 ((65535-(n:Int))%256),.int .u8 ((65535-(n:Int))/256)] 5)):=by
  rw[b];refine Oz _ _ 5 5 [UInt8.ofNat last,UInt8.ofNat n,UInt8.ofNat (n/256),UInt8.ofNat (65535-n),UInt8.ofNat ((65535-n)/256)] rfl (fun i hi=> ?_);have hi:i<5:=hi;refine(nU w _ 5 (0,0) i).trans ?_;rcases(by omega:i=0\/i=1\/i=2\/i=3\/i=4)with rfl|rfl|rfl|rfl|rfl
  ·show some (Value.int .u8 (last:Int))=some (.int .u8 (((UInt8.ofNat last).toNat:Nat):Int));rw[dB,show(last:Int)=((last%2^8:Nat):Int)by omega]
  ·show some (Value.int .u8 ((n:Int)%256))=some (.int .u8 (((UInt8.ofNat n).toNat:Nat):Int));rw[dB,show((n:Int)%256:Int)=((n%2^8:Nat):Int)by omega]
  ·show some (Value.int .u8 ((n:Int)/256))=some (.int .u8 (((UInt8.ofNat (n/256)).toNat:Nat):Int));rw[dB,show((n:Int)/256:Int)=((n/256%2^8:Nat):Int)by omega]
  ·show some (Value.int .u8 ((65535-(n:Int))%256))=some (.int .u8 (((UInt8.ofNat (65535-n)).toNat:Nat):Int));rw[dB,show((65535-(n:Int))%256:Int)=(((65535-n)%2^8:Nat):Int)by omega]
  ·show some (Value.int .u8 ((65535-(n:Int))/256))=some (.int .u8 (((UInt8.ofNat ((65535-n)/256)).toNat:Nat):Int));rw[dB,show((65535-(n:Int))/256:Int)=(((65535-n)/256%2^8:Nat):Int)by omega]
 have j:(s.size:Int)=(n:Int):=by rw[a]
 rw[d.out];rw[<-a]at f;clear d b c;go_enter func28,ntmps28
 go_wp2_with fail
 go_ret;exact⟨rfl,(aV _ _).alloc (ah _) _⟩
theorem vX(kind data:ByteArray)(w:af)(u:Ci w)(b:4<w.heap.size)(A:kind.size=4)(hd:data.size<=1000000):
 aH prog 19 #[.string kind,.string data] w fun e w'=>e= .returned (.string ⟨(qV kind.data.toList data.data.toList).toArray⟩)/\aA w.heap.size w w':=by
 obtain⟨n,j⟩:∃n,n=data.size:=⟨_,rfl⟩;obtain⟨c,g⟩:∃c,c=gQ (kind++data).data.toList:=⟨_,rfl⟩;have k:c<4294967296:=by rw[g];exact fO _
 have l:au _:=fun w'=>yw n w' (by omega);have m:au _:=fun w'=>yw c w' k;have o:au (∀w',Ci w'->aH prog 29 #[.string (kind++data)] w' fun e w2=>e= .returned (.int .u32 (c:Int))/\w2=w'):=(fun w' h=>by rw[g];exact aa8 (kind++data) w' (by rw[gX];unfold maxLen;omega) h:∀w',_)
 have x:(⟨(bQ n).toArray⟩:ByteArray).size=4:=rfl;have y:(⟨(bQ c).toArray⟩:ByteArray).size=4:=rfl;have v:au ((⟨(qV kind.data.toList data.data.toList).toArray⟩:ByteArray)=(⟨(bQ n).toArray⟩:ByteArray)++kind++data++(⟨(bQ c).toArray⟩:ByteArray)):=(by rw[g,j];apply gK;simp[qV]:_=_)
 have q:au (Ci w):=(u:Ci w);have r:au (4<w.heap.size):=(b:_<_);have z:(data.size:Int)=(n:Int):=by rw[j]
 rw[<-j]at hd;rw[v.out];clear v g u b;generalize (⟨(bQ n).toArray⟩:ByteArray)=X at*;generalize (⟨(bQ c).toArray⟩:ByteArray)=Y at*;go_enter func19,ntmps19
 go_wp2_with fail
 refine aU (l.out _) ?_;rintro e w1 ⟨rfl,a⟩;have s:au (Ci w1):=(fun i hi=>(a.cell (p:=⟨4,i,none⟩) r.out).trans (q.out i hi):Ci w1);have d:au _:=a;clear a;go_wp2_with fail
 refine aU (o.out _ s.out) ?_;rintro e w2 ⟨rfl,rfl⟩;go_wp2_with fail
 refine aU (m.out _) ?_;rintro e w3 ⟨rfl,f⟩;have t:au _:=d.out.trans (f.mono d.out.size);clear f;go_wp2_with fail
 go_ret;exact⟨rfl,t.out⟩
theorem oK(a b:ByteArray):(a++b).data.toList=a.data.toList++b.data.toList:=by simp
theorem TI(s:ByteArray):(⟨s.data.toList.toArray⟩:ByteArray)=s:=by apply gK;simp
theorem Ib(s:ByteArray)(size:Nat)(w:af)(q:1<=size)(t:size<=60000)(C:s.size<=60000):
 aH prog 15 #[.string s,.int .i64 (size:Int)] w fun e w'=>e= .returned (.string ⟨(kQ size s.size s.data.toList).toArray⟩)/\aA w.heap.size w w':=by
 obtain⟨V,n⟩:∃V,V=(⟨(kQ size s.size s.data.toList).toArray⟩:ByteArray):=⟨_,rfl⟩;rw[<-n];have p:au _:=fun(last:Nat) (u:last<=1) (x:ByteArray) (v:x.size<=65535) (w':af)=>KX last x w' u v;go_enter func15,ntmps15
 go_wp2_with fail
 go_loopw [0,5] (fun h ov wr=> ∃(r o:ByteArray) (k:Nat),h= .string r/\ov= .string o/\r.size<=k/\k<=s.size/\o.size+r.size+5*k<=6*s.size/\au (V.data.toList=o.data.toList++kQ size k r.data.toList)/\aA w.heap.size w wr) (fun h _ _=>match h with| .string r=>r.size|_=>0)
 case atStart=>exact⟨s,⟨#[]⟩,s.size,rfl,rfl,ah _,ah _,by show 0+s.size+5*s.size<=_;omega,by rw[n];exact(rfl:_=_),aV _ _⟩
 case round=>
  obtain⟨r,o,k,rfl,rfl,D,y,E,g,hb⟩:=hrel;by_cases i:size<r.size
  ·obtain⟨k,rfl⟩:∃z,k=z+1:=⟨k-1,by omega⟩;have A:(r.extract 0 size).size=size:=by simp;omega
   have B:(r.extract size r.size).size=r.size-size:=by simp
   have c:au (V.data.toList=o.data.toList++(vT 0 (r.extract 0 size).data.toList++kQ size k (r.extract size r.size).data.toList)):=(by
    have:=g.out;rw[kQ,aG (by simpa using i)]at this;rw[this];congr 2
    ·rw[gI.uF];rfl
    ·rw[gI.uF];unfold gI.cut;rw[dn (by simp)]:_=_)
   have d:au _:=fun(w':af)=>p.out 0 (by omega) (r.extract 0 size) (by omega) w';have j:(⟨(vT 0 (r.extract 0 size).data.toList).toArray⟩:ByteArray).size=5+size:=by rw[fF,vU];simp;omega
   have l:au ((⟨(vT 0 (r.extract 0 size).data.toList).toArray⟩:ByteArray).data.toList=vT 0 (r.extract 0 size).data.toList):=(by simp:_=_);generalize (⟨(vT 0 (r.extract 0 size).data.toList).toArray⟩:ByteArray)=Y at*;have m:au (V.data.toList=(o++Y).data.toList++kQ size k (r.extract size r.size).data.toList):=(by rw[c.out,oK,l.out,bI]:_=_);have a:au _:=hb;clear hb g;go_wp2_with fail
   refine aU (d.out _) ?_;rintro e w1 ⟨rfl,b⟩;have f:au _:=a.out.trans (b.mono a.out.size);clear b;go_wp2_with fail
   go_roundw
   case rel=>exact⟨r.extract size r.size,o++Y,k,rfl,rfl,by omega,by omega,by rw[gX];omega,m,f.out⟩
   case measure=>show(r.extract size r.size).size<r.size;omega
  ·have c:au (V=o++⟨(vT 1 r.data.toList).toArray⟩):=(by
    have:=g.out;rw[Ot _ _ _ (by simp;omega)]at this;rw[<-TI V,this];apply gK;simp:_=_)
   have d:au _:=fun(w':af)=>p.out 1 (by omega) r (by omega) w';have j:(⟨(vT 1 r.data.toList).toArray⟩:ByteArray).size=5+r.size:=by rw[fF,vU];simp
   generalize (⟨(vT 1 r.data.toList).toArray⟩:ByteArray)=Y at*;have a:au _:=hb;clear hb g;go_wp2_with fail
   refine aU (d.out _) ?_;rintro e w1 ⟨rfl,b⟩;have f:au _:=a.out.trans (b.mono a.out.size);clear b;go_wp2_with fail
   go_ret;exact⟨jo (fun x=>Ending.returned (Value.string x)) c.out.symm,f.out⟩
end Kp
namespace Kp
open Go.RowKit Rf Cr
open Pr
open gI (bQ gQ fO iD oN)
def pW(W H K D:Nat)(I:Bool)(ev cv a:ay):ay:= .agg #[.int .i64 (W:Int),.int .i64 (H:Int),.int .i64 (K:Int),.int .i64 (D:Int),.bool I,ev,cv,a]
theorem seven(w:af)(K:Nat)(hK:K=0\/K=2\/K=3\/K=4\/K=6):(Instr.index 58 (.agg #[.int .i64 1,.int .i64 0,.int .i64 3,.int .i64 1,.int .i64 2,.int .i64 0,.int .i64 4]) (.int .i64 (K:Int))).run prog w= .ok (.int .i64 ((aT K:Nat):Int)) w:=by rcases hK with rfl|rfl|rfl|rfl|rfl<;>kernel_rfl
def uu(v:ay):Prop:=∃la n cap,v= .slice la n cap
def oC(W H K D:Nat)(I:Bool)(ev cv a:ay):Obj:= .cells #[.int .i64 (W:Int),.int .i64 (H:Int),.int .i64 (K:Int),.int .i64 (D:Int),.bool I,ev,cv,a] 26
theorem pX(W H K D:Nat)(I:Bool)(ev cv a:ay)(w:af)(h1:uu ev)(h2:uu cv)(b:uu a)(hK:K=0\/K=2\/K=3\/K=4\/K=6):
 aH prog 12 #[pW W H K D I ev cv a] w fun e w'=>e= .returned (.int .i64 ((aT K:Nat):Int))/\w'=w.alloc (oC W H K D I ev cv a):=by
 obtain⟨c,d,c1,rfl⟩:=h1;obtain⟨f,g,c2,rfl⟩:=h2;obtain⟨h,i,c3,rfl⟩:=b;have j:=seven (w.alloc (oC W H K D I (.slice c d c1) (.slice f g c2) (.slice h i c3))) K hK;unfold pW oC at*;generalize aT K=n at*;go_enter func12,ntmps12
 go_wp2_with fail
 go_ret;exact⟨rfl,rfl⟩
theorem ZW(a b:Int):a*a<=b*b↔(if a<0 then-a else a)<=(if b<0 then-b else b):=by
 have h:∀a:Int,a*a=(if a<0 then-a else a)*(if a<0 then-a else a):=fun a=>by
  split
  ·rw[Int.neg_mul_neg]
  ·rfl
 have hp:∀a:Int,0<=(if a<0 then-a else a):=fun a=>by split<;>omega
 rw[h a,h b];have c:=hp a;have hb:=hp b;generalize (if a<0 then-a else a)=x at*;generalize (if b<0 then-b else b)=y at*;obtain⟨m,rfl⟩:∃m:Nat,x=(m:Int):=⟨x.toNat,by omega⟩;obtain⟨n,rfl⟩:∃n:Nat,y=(n:Int):=⟨y.toNat,by omega⟩;rw[<-jK,<-jK,Int.ofNat_le,Int.ofNat_le];exact Nat.mul_self_le_mul_self_iff
theorem KY(w:af)(a b c:Int)(f:Nat)(d:f<=3):(Instr.index 61 (.agg #[.int .i64 0,.int .i64 a,.int .i64 b,.int .i64 c]) (.int .i64 (f:Int))).run prog w= .ok (.int .i64 (if f=0 then 0 else if f=1 then a else if f=2 then b else c)) w:=by rcases(by omega:f=0\/f=1\/f=2\/f=3)with rfl|rfl|rfl|rfl<;>kernel_rfl
theorem KZ(f l a c:Nat)(w:af)(D:f<=4)(E:l<=255)(F:a<=255)(G:c<=255):
 aH prog 25 #[.int .i64 (f:Int),.int .i64 (l:Int),.int .i64 (a:Int),.int .i64 (c:Int)] w fun e w'=>e= .returned (.int .i64 ((iD f l a c:Nat):Int))/\w'=w:=by
 obtain⟨V,g⟩:∃V,V=iD f l a c:=⟨_,rfl⟩;rw[<-g];by_cases n:f=4
 ·subst n;have h0:∀t:Int,(Instr.index 61 (.agg #[.int .i64 0,.int .i64 (l:Int),.int .i64 (a:Int),.int .i64 t]) (.int .i64 1)).run prog w= .ok (.int .i64 (l:Int)) w:=fun t=>KY w (l:Int) (a:Int) t 1 (by omega);have h1:∀t:Int,(Instr.index 61 (.agg #[.int .i64 0,.int .i64 (l:Int),.int .i64 (a:Int),.int .i64 t]) (.int .i64 2)).run prog w= .ok (.int .i64 (a:Int)) w:=fun t=>KY w (l:Int) (a:Int) t 2 (by omega);obtain⟨x,j⟩:∃x:Int,x=(l:Int)+a-c-l:=⟨_,rfl⟩;obtain⟨y,k⟩:∃y:Int,y=(l:Int)+a-c-a:=⟨_,rfl⟩;obtain⟨z,m⟩:∃z:Int,z=(l:Int)+a-c-c:=⟨_,rfl⟩;have b:au (V=if x*x<=y*y/\x*x<=z*z then l else if y*y<=z*z then a else c):=(by
   rw[g,j,k,m];unfold iD oN;simp only[ZW];rw[ax (by omega),ax (by omega),ax (by omega),aG trivial];have e:∀p q:Int,(if p<q then q-p else p-q)=if p-q<0 then-(p-q)else p-q:=fun p q=>by split<;>split<;>omega
   simp only[e]:_=_)
  have i:∀u:Int,-1000<=u->u<=1000->0<=u*u/\u*u<=1000000:=fun u h1 h2=>by have H:=(ZW u 1000).2 (by split<;>omega);have n:=(ZW 0 u).2 (by split<;>omega);omega
  obtain⟨o,r⟩:=i x (by omega) (by omega);obtain⟨s,v⟩:=i y (by omega) (by omega);obtain⟨A,B⟩:=i z (by omega) (by omega);clear g i;go_enter func25,ntmps25
  go_upto_region 6 with fail
  rw[<-j,<-k,<-m];clear j k m;by_cases c1:x*x<=y*y
  ·by_cases c2:x*x<=z*z
   ·have d:au (V=l):=(by rw[b.out,aG ⟨c1,c2⟩]:_=_);clear b;go_wp2_with fail
    go_ret;exact⟨bP (by rw[d.out]),rfl⟩
   ·by_cases c3:y*y<=z*z
    ·omega
    ·have d:au (V=c):=(by rw[b.out,ax (fun h=>c2 h.2),ax c3]:_=_);clear b;go_wp2_with fail
     go_ret;exact⟨bP (by rw[d.out]),rfl⟩
  ·by_cases c3:y*y<=z*z
   ·have d:au (V=a):=(by rw[b.out,ax (fun h=>c1 h.1),aG c3]:_=_);clear b;go_wp2_with fail
    go_ret;exact⟨bP (by rw[d.out]),rfl⟩
   ·have d:au (V=c):=(by rw[b.out,ax (fun h=>c1 h.1),ax c3]:_=_);clear b;go_wp2_with fail
    go_ret;exact⟨bP (by rw[d.out]),rfl⟩
 ·have b:au (((V:Nat):Int)=if f=0 then 0 else if f=1 then(l:Int)else if f=2 then(a:Int)else((l:Int)+a)/2):=(by
   rw[g];unfold iD;rcases(by omega:f=0\/f=1\/f=2\/f=3)with rfl|rfl|rfl|rfl<;>simp:_=_)
  have h0:=KY w (l:Int) (a:Int) (((l:Int)+a)/2) f (by omega);rw[<-b.out]at h0;have hd:((l:Int)+a).tdiv 2=((l:Int)+a)/2:=ve (by omega);have C:((f:Int)==4)=false:=by rw[aI];omega
  clear g;go_enter func25,ntmps25
  go_wp2_with fail
  go_ret;exact⟨rfl,rfl⟩
end Kp
namespace Kp
open Go.RowKit Rf Cr
open Pr
open gI (b_)
theorem Gv{w:af}{base:Nat}{sl:ay}{L:List Int}(h:gq w base sl L)(i:Nat): -9223372036854775808<=oP L i/\oP L i<=9223372036854775807:=by
 obtain⟨la,cap,rfl,e,b⟩:=h;unfold oP;split
 ·omega
 ·rename_i h0;obtain⟨a,_,_,_,c,d⟩:=b (i%L.length) (jR _ (by omega));exact⟨c,d⟩
def ji(w:af)(base:Nat)(v:ay)(L:List Nat):Prop:=gq w base v (L.map (fun n:Nat=>(n:Int)))
theorem ji.at'{w:af}{base:Nat}{v:ay}{L:List Nat}(h:ji w base v L):∃la cap,v= .slice la L.length cap/\L.length<=140737488351232/\∀i,i<L.length->∃a:bG,la=some a/\a.block<base/\w.cell? (a.add i)=some (.int .i64 ((L.getD i 0:Nat):Int)):=by obtain⟨la,cap,e,h1,h2⟩:=h;rw[kT]at e h1;refine⟨la,cap,e,h1,fun i hi=> ?_⟩;obtain⟨a,b,c,d,_⟩:=h2 i (by rw[kT];exact hi);refine⟨a,b,c,d.trans ?_⟩;rw[ag,fH,aB hi,ag,aB hi];rfl
theorem ji.over{w w':af}{base:Nat}{v:ay}{L:List Nat}(h:ji w base v L)(e:∀k,k<base->w'.heap[k]?=w.heap[k]?):ji w' base v L:=gq.over h e
theorem jS{w w':af}{base T z n:Nat}{v:ay}{xs:List ay}(h:w.ownsRow base T z v n xs)(hb:aA w.heap.size w w'):w'.ownsRow base T z v n xs:=fE h (fun k a=>hb.block k (h.lt k a).2)
def K_:List (Nat×Nat×Nat×Nat)->List ay
 | []=>[]
 |q::l=>[.int .i64 (q.1:Int),.int .i64 (q.2.1:Int),.int .i64 (q.2.2.1:Int),.int .i64 (q.2.2.2:Int)]++K_ l
theorem ZX(I:Bool)(w:af):
 aH prog 23 #[.bool I] w fun e w'=>e= .returned (.slice (some ⟨w.heap.size,0,none⟩) (b_ (if I=true then 1 else 0)).length (b_ (if I=true then 1 else 0)).length)/\w'=w.alloc (.cells (K_ (b_ (if I=true then 1 else 0))).toArray 61):=by
 cases I with
 |false=>
  go_enter func23,ntmps23
  go_wp2_with fail
  go_ret;exact⟨rfl,rfl⟩
 |true=>
  go_enter func23,ntmps23
  go_wp2_with fail
  go_ret;exact⟨rfl,rfl⟩
def yz(a b c:Int)(I:Bool)(ev:ay)(T:Bool)(d fv pv:ay)(z:Int):ay:= .agg #[.int .i64 a,.int .i64 b,.int .i64 c,.bool I,ev,.bool T,d,fv,pv,.int .i64 z]
theorem y_{w:af}{base e size n:Nat}{v:ay}{xs:List ay}(h:w.ownsRow base e size v n xs)(b:1<=n):∃g cap,v= .slice (some ⟨g,0,none⟩) n cap:=by
 rcases h.2 with⟨_,h0⟩|⟨g,a,_,e,_⟩
 ·omega
 ·exact⟨g,a,e⟩
theorem yA{w:af}{base a e size n:Nat}{v:ay}{xs:List ay}(h:w.ownsRow base e size v n xs)(hb:a<=base):w.ownsRow a e size v n xs:=by obtain⟨h1,h2⟩:=h;refine⟨h1,h2.imp id (fun⟨g,cap,cur,b,c,e3⟩=>⟨g,cap,cur,b,aY hb c,e3⟩)⟩
def adU(v:ay):Prop:=∃g n cap,v= .slice (some ⟨g,0,none⟩) n cap/\n<=cap
def iJ(p:Wk)(w:af)(v:ay):Prop:=∃ev cv a,v=pW p.W p.H p.K p.D p.I ev cv a/\ji w w.heap.size ev p.E/\ji w w.heap.size cv p.C/\ji w w.heap.size a p.S/\adU a
theorem ji.sl{w:af}{base:Nat}{v:ay}{L:List Nat}(h:ji w base v L):uu v:=by obtain⟨la,cap,e,_⟩:=h.at';exact⟨la,_,cap,e⟩
theorem ji.up{w w':af}{v:ay}{L:List Nat}(h:ji w w.heap.size v L)(hb:aA w.heap.size w w'):ji w' w'.heap.size v L:=by have h2:=h.over (fun k b=>hb.block k b);obtain⟨la,cap,e,h1,c⟩:=h2;refine⟨la,cap,e,h1,fun i hi=> ?_⟩;obtain⟨a,d,f,g⟩:=c i hi;exact⟨a,d,aN f hb.size,g⟩
theorem iJ.up{p:Wk}{w w':af}{v:ay}(h:iJ p w v)(hb:aA w.heap.size w w'):iJ p w' v:=by obtain⟨ev,cv,a,e,h1,h2,b,c⟩:=h;exact⟨ev,cv,a,e,h1.up hb,h2.up hb,b.up hb,c⟩
end Kp
namespace Kp
open Go.RowKit Rf Cr
open Pr
def jk(g:Nat->Int)(m:Int)(n:Nat):List Nat:=(List.range n).map fun i=>(pk (g i) m).toNat
theorem zf(g:Nat->Int)(m:Int)(n:Nat):(jk g m n).length=n:=by simp[jk]
theorem Ar(g:Nat->Int)(m:Int)(n:Nat):jk g m (n+1)=jk g m n++[(pk (g n) m).toNat]:=by simp[jk,List.range_succ]
theorem vY(g:Nat->Int)(m n:Nat)(hm:0<m):∀x∈jk g m n,x<m:=by intro x a;obtain⟨i,_,rfl⟩:=List.mem_map.1 a;have:=rF (g i) m (by omega);omega
def WJ:List (Nat×Nat):=[(0,1),(0,2),(0,4),(0,8),(0,16),(2,8),(2,16),(3,1),(3,2),(3,4),(3,8),(4,8),(4,16),(6,8),(6,16)]
def C_(k:Nat):Nat:=(WJ.getD k (0,1)).1
def xw(k:Nat):Nat:=(WJ.getD k (0,1)).2
theorem acC(k:Nat)(h:k<15):(C_ k=0/\eG (xw k))\/(C_ k=3/\(xw k=1\/xw k=2\/xw k=4\/xw k=8))\/((C_ k=2\/C_ k=4\/C_ k=6)/\(xw k=8\/xw k=16)):=by
 have:∀k:Fin 15,(C_ k.val=0/\(xw k.val=1\/xw k.val=2\/xw k.val=4\/xw k.val=8\/xw k.val=16))\/(C_ k.val=3/\(xw k.val=1\/xw k.val=2\/xw k.val=4\/xw k.val=8))\/((C_ k.val=2\/C_ k.val=4\/C_ k.val=6)/\(xw k.val=8\/xw k.val=16)):=by decide
 exact this ⟨k,h⟩
def ku(D len:Nat):Nat:=if min (min len (2^D)) 256=0 then 1 else min (min len (2^D)) 256
theorem BH(D len:Nat):1<=ku D len/\ku D len<=256/\ku D len<=2^D:=by have:=kS D;unfold ku;split<;>omega
def tY(K D len:Nat):Nat:=if K=3 then ku D len else 2^D
theorem ZY(K D len:Nat)(h:D<=16):1<=tY K D len/\tY K D len<=2^D/\tY K D len<=65536:=by have h1:=kS D;have h2:2^D<=2^16:=bT (by omega) h;have a:=BH D len;unfold tY;split<;>omega
def La(W H K D:Nat)(E S:List Int):List Nat:=jk (oP S) (tY K D E.length) (W*H*aT K)
def vZ(W H K D:Nat)(T:Bool)(E S:List Int)(z:Int):List Nat:=if T=false\/K=4\/K=6 then []else if K=3 then jk (fun i=>(oP E i).tdiv 3) 256 (1+(pk z (tY K D E.length)).toNat)else(La W H K D E S).take (aT K)
def Lc(a b c:Int)(I T:Bool)(E S:List Int)(z:Int):Wk:=
 ⟨1+(pk a 20).toNat,1+(pk b 20).toNat,xw (pk c 15).toNat,C_ (pk c 15).toNat,I,if C_ (pk c 15).toNat=3 then jk (oP E) 16777216 (ku (xw (pk c 15).toNat) E.length)else [],vZ (1+(pk a 20).toNat) (1+(pk b 20).toNat) (C_ (pk c 15).toNat) (xw (pk c 15).toNat) T E S z,La (1+(pk a 20).toNat) (1+(pk b 20).toNat) (C_ (pk c 15).toNat) (xw (pk c 15).toNat) E S⟩
theorem adV(W H k:Nat)(I T:Bool)(E S:List Int)(z:Int)(b:1<=W)(f:W<=20)(d:1<=H)(g:H<=20)(p:k<15):(⟨W,H,xw k,C_ k,I,if C_ k=3 then jk (oP E) 16777216 (ku (xw k) E.length)else [],vZ W H (C_ k) (xw k) T E S z,La W H (C_ k) (xw k) E S⟩:Wk).Ok:=by
 have e:=acC k p;have hD:xw k<=16:=by unfold eG at e;omega
 generalize xw k=D at*;generalize C_ k=K at*;have hm:=ZY K D E.length hD;have h:∀x∈La W H K D E S,x<tY K D E.length:=vY _ _ _ (by omega);have o:(La W H K D E S).length=W*H*aT K:=zf _ _ _;have j:1<=W*H:=bD b d;refine⟨b,f,d,g,e,o,fun x l=>aN (h x l) hm.2.1,?_,?_,?_⟩
 ·intro m;dsimp only at m|-;have he:=BH D E.length;have n:tY K D E.length=ku D E.length:=by unfold tY;rw[aG m]
  rw[aG m,zf];refine⟨he.1,he.2.1,he.2.2,fun x l=>by rw[<-n];exact h x l,?_,?_⟩
  ·intro c a;unfold vZ at a;split at a
   ·cases a
   ·have:=vY (fun i=>(oP E i).tdiv 3) 256 _ (by omega) c a;omega
  ·unfold vZ;split
   ·simp
   ·rw[zf];have:=rF z (tY K D E.length) (by omega);omega
 ·intro q;dsimp only at q|-;unfold vZ;split
  ·exact .inl rfl
  ·rw[ax (by omega)];refine .inr ⟨?_,fun c a=>aN (h c (oV a)) hm.2.1⟩;rw[eH,o];have h1:1*aT K<=W*H*aT K:=dM _ j;omega
 ·intro r;dsimp only at r|-;unfold vZ;rw[aG (by omega)]
theorem ab3(a b c:Int)(I T:Bool)(E S:List Int)(z:Int):(Lc a b c I T E S z).Ok:=by have h1:=rF a 20 (by omega);have h2:=rF b 20 (by omega);have d:=rF c 15 (by omega);exact adV _ _ _ I T E S z (by omega) (by omega) (by omega) (by omega) (by omega)
theorem ZZ(a b c:Int)(I T:Bool)(E S:List Int)(z:Int):(∀e∈(Lc a b c I T E S z).E,e<16777216)/\(Lc a b c I T E S z).E.length<=256:=by
 unfold Lc;dsimp only;split
 ·exact⟨fun e he=>vY (oP E) 16777216 _ (by omega) e he,by rw[zf];exact(BH _ _).2.1⟩
 ·exact⟨fun e he=>(by cases he),by simp⟩
def WL:List (Nat×Nat)->List ay
 | []=>[]
 |q::l=> .int .i64 (q.1:Int):: .int .i64 (q.2:Int)::WL l
theorem Jl(w:af)(cs:Array ay)(T:aW){n:Nat}(h:n=cs.size):(w.alloc (.cells cs T)).there w.heap.size 0 n:=fun j a=>by have h1:=cell_of (aP w (.cells cs T)) (0+j);refine⟨?_,h1.2⟩;rw[h1.1,fQ,xg (by omega)];rfl
theorem yB{B:Nat}{w0:af}:∀(a:List ay) (o:Nat) {w:af} {b:Nat},B<=b->aA B w0 w->aA B w0 (w.setCells b o a)
 | [],_,_,_,_,h=>h
 |v::r,o,w,b,hb,h=>yB r (o+1) hb (Below.setCell (p:=⟨b,o,none⟩) h hb v)
theorem Gw(w:af)(cs:Array ay)(h:cs.size=30):(∀j u,(WL WJ)[j]?=some u->((w.alloc (.cells cs 43)).setCells w.heap.size 0 (WL WJ).toArray.toList).cell? ⟨w.heap.size,j,none⟩=some u)/\aA w.heap.size w ((w.alloc (.cells cs 43)).setCells w.heap.size 0 (WL WJ).toArray.toList):=by refine⟨fun j u a=> ?_,yB _ 0 (ah _) ((aV w.heap.size w).alloc (ah _) _)⟩;have:=World.rangeAt_setCells_same _ w.heap.size 0 (WL WJ) (Jl w cs 43 (by rw[h];rfl)) j u a;simpa using this
theorem ada(l:List (Nat×Nat)):∀(i:Nat) (q:Nat×Nat),l[i]?=some q->(WL l)[i*2]?=some (.int .i64 (q.1:Int))/\(WL l)[i*2+1]?=some (.int .i64 (q.2:Int)):=by
 induction l with
 |nil=>intro i q h;simp at h
 |cons a l b=>
  intro i q h;cases i with
  |zero=>simp at h;subst h;simp[WL]
  |succ i=>have:=b i q (by simpa using h);rw[show(i+1)*2=i*2+2 by omega];simpa [WL]using this
theorem adb(k:Nat)(h:k<15):WJ[k]?=some (C_ k,xw k):=by
 have:∀k:Fin 15,WJ[k.val]?=some (C_ k.val,xw k.val):=by decide
 exact this ⟨k,h⟩
theorem ab4(D len a:Nat)(h:2^D<=256)(b:a=min len (2^D)):ku D len=if a=0 then 1 else a:=by unfold ku;rw[sH (aY (Nat.min_le_right _ _) h),b]
theorem ade(D:Nat)(h1:1<=D)(h2:D<=16):2<=2^D/\2^D<=65536:=
 ⟨bT (n:=2) (by omega) h1,bT (n:=2) (by omega) h2⟩
theorem acD(D:Nat)(h:D<=8):2^D<=256:=bT (n:=2) (by omega) h
theorem wrap_small(m:Nat)(h:m<=65536):wrap64 (m:Int)=(m:Int):=by rw[<-IntWalk.i64_left];exact IntWalk.i64_in _ ⟨by omega,by omega⟩
def kR(L:List Nat):List ay:=L.map fun n:Nat=> .int .i64 (n:Int)
theorem zg(L:List Nat)(n:Nat):kR (L++[n])=kR L++[.int .i64 (n:Int)]:=by simp[kR]
theorem Ld{w:af}{base n:Nat}{la:Option bG}{cap:Nat}{L:List Nat}(h:w.ownsRow base 3 1 (.slice la n cap) n (kR L))(hb:∀x∈L,x<4611686018427387904)(k:n<=1000000):ji w w.heap.size (.slice la n cap) L:=by
 have c:L.length=n:=by have:=h.1;simp[kR]at this;omega
 rcases h.2 with⟨e,h0⟩|⟨g,l,cur,e,m,d,_,_,_,o⟩
 ·injection e with a f e3
  subst a;exact⟨none,cap,by rw[kT,c],by rw[kT];omega,fun i hi=>by rw[kT]at hi;omega⟩
 ·injection e with a f e3
  subst a;refine⟨some ⟨g,0,none⟩,cap,by rw[kT,c],by rw[kT];omega,fun i hi=> ?_⟩;rw[kT]at hi;have b:(L.map (fun n:Nat=>(n:Int))).getD i 0=((L.getD i 0:Nat):Int):=by rw[ag,fH,aB hi,ag,aB hi];rfl
  have j:=nT hb (by omega) i;refine⟨⟨g,0,none⟩,rfl,ak d,?_,by rw[b];omega,by rw[b];omega⟩;rw[b,Addr.add_mid,fQ,h.cellAt i (by omega)];unfold kR;rw[fH,aB hi,ag,aB hi];rfl
theorem pY{B pb:Nat}{w0 w w':af}(h:aA B w0 w)(hF:Fr (fun k=>k=pb) w w')(b:B<=pb)(h0:B<=w0.heap.size):aA B w0 w':=
 ⟨hF.os.trans h.os,hF.tape.trans h.tape,hF.output.trans h.output,aY h.size hF.size,fun k a=>(hF.block k (aN a (aY h0 h.size)) (fun e=>by omega)).trans (h.block k a)⟩
theorem qL(c:Int)(n:Nat)(h0: -9223372036854775808<=c/\c<=9223372036854775807)(b:1<=n)(a:n<=100000000)(wx:af):aH prog 10 #[.int .i64 c,.int .i64 (n:Int)] wx fun e w'=>e= .returned (.int .i64 (((pk c n).toNat:Nat):Int))/\w'=wx:=by have h1:=rF c n (by omega);rw[Int.toNat_of_nonneg h1.1];exact BG c n wx h0.1 h0.2 (by omega) (by omega)
def uN:Code->List Code
 | .loop c=>[.loop c]
 | .seq a b=>uN a++uN b
 | .block _ c=>uN c
 | .scope c=>uN c
 | .cond _ a b=>uN a++uN b
 |_=>[]
noncomputable def wkL(i:Nat):Code:=((f4.body.map uN).getD []).getD i .skip
def w_(W H K D:Nat)(I:Bool)(ev cv a:ay):Obj:= .cells #[.int .i64 (W:Int),.int .i64 (H:Int),.int .i64 (K:Int),.int .i64 (D:Int),.bool I,ev,cv,a] 26 (0,0)
theorem qW{w0 wr a:af}{pb n g cap j:Nat}{cs:Array ay}{T:aW}{v x:ay}{xs:List ay}{o:Obj}(b:wr.heap[pb]?=some (.cells cs T (0,0)))(i:wr.ownsRow w0.heap.size 3 1 v n xs)(hF:Fr (fun k=>k=pb) w0 wr)(m:pb<w0.heap.size)
 (l:a.ownsRow w0.heap.size 3 1 (.slice (some ⟨g,0,none⟩) (n+1) cap) (n+1) (xs++[x])) (c:(wr.alloc o).grownBy a v.ownBlock):
 a.heap[pb]?=some (.cells cs T (0,0))/\(∀y:ay,(a.setCell ⟨pb,j,none⟩ y).heap[pb]?=some (.cells (cs.setIfInBounds j y) T (0,0))/\(a.setCell ⟨pb,j,none⟩ y).ownsRow w0.heap.size 3 1 (.slice (some ⟨g,0,none⟩) (n+1) cap) (n+1) (xs++[x])/\Fr (fun k=>k=pb) w0 (a.setCell ⟨pb,j,none⟩ y)):=by
 have h:=ak b;have p:=hF.size;have q:v.ownBlock≠some pb:=fun e=>by have:=(i.lt pb e).1;omega
 have d:a.heap[pb]?=some (.cells cs T (0,0)):=((c.block pb (by simp;omega) q.symm).trans (ai wr _ pb h)).trans b;refine⟨d,fun y=>⟨bF d j y,fE l (fun k b=>aC j y (fun e=> ?_)),?_⟩⟩
 ·have:=(l.lt k b).1;omega
 ·refine⟨c.os.trans hF.os,c.tape.trans hF.tape,c.output.trans hF.output,by have:=c.size;simp at this|-;omega,fun k b f=> ?_⟩;exact((aC j y f).trans ((c.block k (by simp;omega) (fun e=>by have:=(i.lt k e.symm).1;omega)).trans (ai wr _ k (by omega)))).trans (hF.block k b f)
theorem ab5{w:af}{base n:Nat}{la:Option bG}{cap:Nat}{xs:List ay}(h:w.ownsRow base 3 1 (.slice la n cap) n xs):n<=cap:=by
 rcases h.2 with⟨e,h0⟩|⟨g,a,cur,e,_,_,b,_⟩
 ·omega
 ·injection e with _ _ e3
  omega
theorem Gx{w w':af}{v:ay}{L:List Int}{b:Nat}(h:gq w w.heap.size v L)(hb:aA w.heap.size w w')(hp:w.heap.size<=b):gq w' b v L:=by have h2:=gq.over h (fun k c=>hb.block k c);obtain⟨la,cap,e,h1,d⟩:=h2;refine⟨la,cap,e,h1,fun i hi=> ?_⟩;obtain⟨a,f,g,j⟩:=d i hi;exact⟨a,f,aN g hp,j⟩
theorem Gy{w w':af}{pb n:Nat}{v:ay}{xs:List ay}(h:w.ownsRow (pb+1) 3 1 v n xs)(b:Fr (fun k=>k=pb) w w'):w'.ownsRow (pb+1) 3 1 v n xs:=
 fE h (fun k a=>b.block k (h.lt k a).2 (fun e=>by have:=(h.lt k a).1;omega))
theorem Au(p:Wk){a f:af}{o pb W H K D g N d en ec cn q:Nat}{I:Bool}{ea r:Option bG}{i j l:List Nat}(hp:p.W=W/\p.H=H/\p.K=K/\p.D=D/\p.I=I/\p.E=i/\p.S=j/\p.C=l)
 (he:a.ownsRow (pb+1) 3 1 (.slice ea en ec) en (kR i)) (t:a.ownsRow (pb+1) 3 1 (.slice (some ⟨g,0,none⟩) N d) N (kR j)) (u:a.ownsRow (pb+1) 3 1 (.slice r cn q) cn (kR l)) (w:∀x∈i,x<16777216) (hS:∀x∈j,x<65536) (y:∀x∈l,x<65536)
 (m:en<=1000000/\N<=1000000/\cn<=1000000) (b:N<=d) (z:Fr (fun k=>k=o+1) a f) (hb:o+1<pb):
 iJ p f (pW W H K D I (.slice ea en ec) (.slice r cn q) (.slice (some ⟨g,0,none⟩) N d)):=by
 obtain⟨rfl,rfl,rfl,rfl,rfl,rfl,rfl,rfl⟩:=hp;have up:∀{v:ay} {n:Nat} {xs:List ay},a.ownsRow (pb+1) 3 1 v n xs->f.ownsRow (pb+1) 3 1 v n xs:=fun h=>fE h (fun k s=>z.block k (h.lt k s).2 (fun e=>by have:=(h.lt k s).1;omega));exact⟨_,_,_,rfl,Ld (up he) (fun x c=>aN (w x c) (by omega)) m.1,Ld (up u) (fun x c=>aN (y x c) (by omega)) m.2.2,Ld (up t) (fun x c=>aN (hS x c) (by omega)) m.2.1,g,N,d,rfl,b⟩
theorem adf{wx:af}{b:Nat}{l m n o p q r s:ay}(a c d e f g i j:ay)(h:wx.heap[b]?=some (.cells #[l,m,n,o,p,q,r,s] 26 (0,0))):
 ((((((((wx.setCell ⟨b,0,none⟩ a).setCell ⟨b,1,none⟩ c).setCell ⟨b,2,none⟩ d).setCell ⟨b,3,none⟩ e).setCell ⟨b,4,none⟩ f).setCell ⟨b,5,none⟩ g).setCell ⟨b,6,none⟩ i).setCell ⟨b,7,none⟩ j).heap[b]?=some (.cells #[a,c,d,e,f,g,i,j] 26 (0,0))/\
 Fr (fun k=>k=b) wx ((((((((wx.setCell ⟨b,0,none⟩ a).setCell ⟨b,1,none⟩ c).setCell ⟨b,2,none⟩ d).setCell ⟨b,3,none⟩ e).setCell ⟨b,4,none⟩ f).setCell ⟨b,5,none⟩ g).setCell ⟨b,6,none⟩ i).setCell ⟨b,7,none⟩ j):=by
 refine⟨?_,((((((((Fr.refl (fun k=>k=b) wx).set b 0 rfl a).set b 1 rfl c).set b 2 rfl d).set b 3 rfl e).set b 4 rfl f).set b 5 rfl g).set b 6 rfl i).set b 7 rfl j⟩;have h0:=bF h 0 a;have h1:=bF h0 1 c;have h2:=bF h1 2 d;have t:=bF h2 3 e;have u:=bF t 4 f;have v:=bF u 5 g;have w:=bF v 6 i;have x:=bF w 7 j;simpa using x
open gI (bQ gQ fO)
def TJ(w:af)(v:ay)(L:List ByteArray):Prop:=∃(la:Option bG) (cap:Nat),v= .slice la L.length cap/\∀i,i<L.length->∃a:bG,la=some a/\w.cell? (a.add i)=some (.string (L.getD i ByteArray.empty))
def tZ:List ByteArray->List UInt8
 | []=>[]
 |x::l=>x.data.toList++tZ l
theorem BI(a b:List ByteArray):tZ (a++b)=tZ a++tZ b:=by
 induction a with
 |nil=>rfl
 |cons x a c=>rw[nC,tZ,c,tZ,bI]
theorem Wn(L:List ByteArray)(i:Nat)(h:i<L.length):tZ (L.take (i+1))=tZ (L.take i)++(L.getD i ByteArray.empty).data.toList:=by
 rw[dN h,BI];congr 1
 rw[ag,aB h];simp[tZ]
theorem ab8(L:List ByteArray)(i:Nat):(tZ (L.take i)).length<=(tZ L).length:=by have h:=BI (L.take i) (L.drop i);rw[nS]at h;rw[h,aK];omega
theorem aad(v:ay)(L:List ByteArray)(w:af)(h:TJ w v L)(p:L.length<=1000)(u:(tZ L).length<=10000000):
 aH prog 6 #[v] w fun e w'=>e= .returned (.string ⟨(tZ L).toArray⟩)/\w'=w:=by
 obtain⟨la,cap,rfl,k⟩:=h;obtain⟨V,f⟩:∃V,V=(⟨(tZ L).toArray⟩:ByteArray):=⟨_,rfl⟩;rw[<-f];obtain⟨n,b⟩:∃n,n=L.length:=⟨_,rfl⟩;have q:au _:=k;rw[<-b]at p|-;have g:au _:=b;clear k b;go_enter func6,ntmps6
 go_wp2_with fail
 go_loop [3,4] (fun r iv=> ∃(s:ByteArray) (i:Nat),r= .string s/\iv= .int .i64 (i:Int)/\i<=n/\s.size<=10000000/\au (s.data.toList=tZ (L.take i))) (fun _ iv=>n-(bH iv).toNat)
 case atStart=>exact⟨⟨#[]⟩,0,rfl,rfl,aX _,aX _,(rfl:_=_)⟩
 case round=>
  obtain⟨s,i,rfl,rfl,hi,y,l⟩:=hrel;by_cases d:i<n
  ·obtain⟨a,rfl,j⟩:=q.out i (by rw[<-g.out];exact d);have m:au ((s++L.getD i ByteArray.empty).data.toList=tZ (L.take (i+1))):=(by rw[oK,l.out,Wn L i (by rw[<-g.out];exact d)]:_=_);have c:(s++L.getD i ByteArray.empty).size<=10000000:=by
    have e:(s++L.getD i ByteArray.empty).size=(s++L.getD i ByteArray.empty).data.toList.length:=by simp
    rw[e,m.out];have:=ab8 L (i+1);omega
   have o:s.size+(L.getD i ByteArray.empty).size<=10000000:=by rw[gX]at c;exact c
   generalize L.getD i ByteArray.empty=x at*;clear f;go_wp2_with fail
   go_round
   case rel=>exact⟨s++x,i+1,rfl,by go_num,by omega,c,m⟩
   case measure=>simp[bH];omega
  ·have t:au (s=V):=(by
    have e:i=L.length:=by have:=g.out;omega
    have h2:=l.out;rw[e,List.take_length]at h2;rw[f,<-h2,TI]:_=_)
   clear f;go_wp2_with fail
   go_ret;exact⟨jo (fun x=>Ending.returned (Value.string x)) t.out,rfl⟩
end Kp
end Go.Proofs.YtephkcdbnogdhabGreatDoor
