import Derived.Test.YtephkcdbnogdhabGreatDoorM2
set_option linter.unusedVariables false
set_option maxHeartbeats 40000000
set_option maxRecDepth 10000
namespace Go.Proofs.YtephkcdbnogdhabGreatDoor
namespace Pr
open gI (iD)
structure jX where
 x:Nat
 sx:Nat
 y:Nat
 sy:Nat
 W:Nat
 H:Nat
abbrev qZ:Type:=Nat×Nat×Nat×Nat
structure xU where
 parts:List jX
 bits:Nat
 W:Nat
 px:List Nat->Nat->Option qZ
def CQ(dQ:List Nat)(o:Nat)(q:qZ):List Nat:=(((dQ.set o q.1).set (o+1) q.2.1).set (o+2) q.2.2.1).set (o+3) q.2.2.2
theorem Nh(dQ:List Nat)(o:Nat)(q:qZ):(CQ dQ o q).length=dQ.length:=by simp[CQ]
def gG(px:Nat->Option qZ)(pos:Nat->Nat):Nat->Nat->List Nat->Option (List Nat)
 |0,_,dQ=>some dQ
 |k+1,i,dQ=>(px i).bind fun q=>gG px pos k (i+1) (CQ dQ (pos i) q)
theorem wR(px:Nat->Option qZ)(pos:Nat->Nat)(k i:Nat)(dQ a:List Nat)(h:gG px pos k i dQ=some a):a.length=dQ.length:=by
 induction k generalizing i dQ with
 |zero=>simp[gG]at h;rw[h]
 |succ k b=>
  rw[gG]at h;cases e:px i with
  |none=>rw[e]at h;simp at h
  |some q=>rw[e]at h;have:=b _ _ h;rw[Nh]at this;exact this
theorem wV(px:Nat->Option qZ)(pos:Nat->Nat)(a b i:Nat)(dQ:List Nat):gG px pos (a+b) i dQ=(gG px pos a i dQ).bind (gG px pos b (i+a)):=by
 induction a generalizing i dQ with
 |zero=>simp[gG]
 |succ a c=>
  rw[show a+1+b=(a+b)+1 by omega,gG,gG];cases px i with
  |none=>rfl
  |some q=>simp only[Option.bind_some];rw[c,show i+1+a=i+(a+1)by omega]
theorem Nj(p q:Nat->Option qZ)(pos:Nat->Nat)(k i:Nat)(dQ:List Nat)(h:∀j,i<=j->j<i+k->p j=q j):gG p pos k i dQ=gG q pos k i dQ:=by
 induction k generalizing i dQ with
 |zero=>rfl
 |succ k a=>
  rw[gG,gG,h i (ah _) (by omega)];congr 1
  funext z
  exact a _ _ (fun j h1 h2=>h j (by omega) (by omega))
def bJ(bits W:Nat):Nat:=(W*bits+7)/8
def aJ(bits:Nat):Nat:=max 1 (bits/8)
def rq(W:Nat)(t:jX)(y i:Nat):Nat:=4*((t.y+y*t.sy)*W+t.x+i*t.sx)
def vM(P:xU)(t:jX)(y:Nat)(a dQ:List Nat):Option (List Nat):=
 gG (P.px a) (rq P.W t y) (min (8*a.length/P.bits) t.W-8*(a.length-1)/P.bits) (8*(a.length-1)/P.bits) dQ
structure d_ where
 pt:Nat
 y:Nat
 told:Nat
 now:List Nat
 qf:List Nat
 at':Nat
 f:Nat
 dQ:List Nat
def ru(P:xU)(st:d_):d_:=
 match P.parts[st.pt]? with
 |some t=>{st with now:=List.replicate (aJ P.bits+bJ P.bits t.W) 0,qf:=List.replicate (aJ P.bits+bJ P.bits t.W) 0,at':=0,f:=0}
 |none=>st
def kG(P:xU)(t:jX)(st:d_):d_:=
 if st.y+1<t.H then {st with told:=st.told+1,y:=st.y+1,now:=st.qf,qf:=st.now,at':=0}
 else ru P {st with told:=st.told+1,pt:=st.pt+1,y:=0}
def unB(st:d_)(step b:Nat):Nat:=(b+iD st.f (st.now.getD (st.at'-step) 0) (st.qf.getD st.at' 0) (st.qf.getD (st.at'-step) 0))%256
def rX(P:xU)(st:d_)(b:Nat):Option d_:=
 match P.parts[st.pt]? with
 |none=>none
 |some t=>
  if st.at'=0 then(if 4<b then none else some {st with f:=b,at':=aJ P.bits})
  else
   (vM P t st.y (((st.now.set st.at' (unB st (aJ P.bits) b)).drop (aJ P.bits)).take (st.at'+1-aJ P.bits)) st.dQ).map fun a=>
     if st.at'+1=st.now.length then kG P t {st with now:=st.now.set st.at' (unB st (aJ P.bits) b),at':=st.at'+1,dQ:=a}
     else {st with now:=st.now.set st.at' (unB st (aJ P.bits) b),at':=st.at'+1,dQ:=a}
def mJ(P:xU):List Nat->d_->Option d_
 | [],st=>some st
 |b::l,st=>(rX P st b).bind (mJ P l)
theorem oI(P:xU)(a b:List Nat)(st:d_):mJ P (a++b) st=(mJ P a st).bind (mJ P b):=by
 induction a generalizing st with
 |nil=>rfl
 |cons x a c=>
  rw[nC,mJ,mJ];cases rX P st x with
  |none=>rfl
  |some s=>simp only[Option.bind_some];exact c s
def Ym(f d:Nat)(s bM o:List Nat)(i:Nat):Nat:=(s.getD i 0+iD f (if d<=i then o.getD (i-d) 0 else 0) (bM.getD i 0) (if d<=i then bM.getD (i-d) 0 else 0))%256
def oQ(f d:Nat)(s bM:List Nat):Nat->List Nat
 |0=>[]
 |i+1=>oQ f d s bM i++[Ym f d s bM (oQ f d s bM i) i]
theorem Bh(f d:Nat)(s bM:List Nat)(i:Nat):(oQ f d s bM i).length=i:=by
 induction i with
 |zero=>rfl
 |succ i a=>rw[oQ,aK,a];rfl
theorem Qr(f d:Nat)(s bM:List Nat)(i j:Nat)(h:i<=j):oQ f d s bM i<+:oQ f d s bM j:=by
 induction j with
 |zero=>rw[show i=0 by omega];exact dO _
 |succ j a=>
  rcases bW j i with h1|h1
  ·rw[show i=j+1 by omega];exact dO _
  ·exact(a h1).trans (by rw[oQ];exact List.prefix_append _ _)
def Fz(P:xU):Prop:=∀(r a:List Nat) (i:Nat),r<+:a->(i+1)*P.bits<=8*r.length->P.px r i=P.px a i
def pM(st:d_)(d f j:Nat)(U a:List Nat):d_:={st with f:=f,at':=d+j,now:=st.now.take d++U++st.now.drop (d+j),dQ:=a}
theorem IY(Z U R:List Nat)(i:Nat)(h1:Z.length<=i)(h2:i<Z.length+U.length):(Z++U++R).getD i 0=U.getD (i-Z.length) 0:=by simp only[List.getD_eq_getElem?_getD];rw[dI (by simp;omega),fC h1]
theorem IZ(Z U R:List Nat)(i:Nat)(h1:i<Z.length):(Z++U++R).getD i 0=Z.getD i 0:=by simp only[List.getD_eq_getElem?_getD];rw[dI (by simp;omega),dI h1]
structure SS(P:xU)(st:d_)(t:jX)(s bM:List Nat):Prop where
 pt:P.parts[st.pt]?=some t
 len:s.length=bJ P.bits t.W
 now:st.now.length=aJ P.bits+bJ P.bits t.W
 nz:∀i,i<aJ P.bits->st.now.getD i 0=0
 az:∀i,i<aJ P.bits->st.qf.getD i 0=0
 ab:∀i,i<bJ P.bits t.W->st.qf.getD (aJ P.bits+i) 0=bM.getD i 0
 at0:st.at'=0
theorem Nk(P:xU)(B:Fz P)(hb:1<=P.bits)(st:d_)(t:jX)(s bM:List Nat)(h:SS P st t s bM)(f j:Nat)(K:j<bJ P.bits t.W)(a:List Nat):
 rX P (pM st (aJ P.bits) f j (oQ f (aJ P.bits) s bM j) a) (s.getD j 0)=
  (gG (P.px (oQ f (aJ P.bits) s bM (bJ P.bits t.W))) (rq P.W t st.y) (min (8*(j+1)/P.bits) t.W-8*j/P.bits) (8*j/P.bits) a).map fun b=>
    if j+1=bJ P.bits t.W then kG P t (pM st (aJ P.bits) f (j+1) (oQ f (aJ P.bits) s bM (j+1)) b)else pM st (aJ P.bits) f (j+1) (oQ f (aJ P.bits) s bM (j+1)) b:=by
 obtain⟨C,L,M,D,m,z,E⟩:=h;have F:1<=aJ P.bits:=by unfold aJ;omega
 generalize hd:aJ P.bits=d at*;have c:=Bh f d s bM j;have n:(st.now.take d).length=d:=by rw[eH];omega
 have G:∀i,i<d->(st.now.take d).getD i 0=0:=fun i hi=>by have:=D i hi;rw[ag]at this|-;rw[dh hi];exact this
 have o:(st.now.take d++oQ f d s bM j++st.now.drop (d+j)).length=d+bJ P.bits t.W:=by simp[c];omega
 have p:unB (pM st d f j (oQ f d s bM j) a) d (s.getD j 0)=Ym f d s bM (oQ f d s bM j) j:=by
  unfold unB Ym pM;dsimp only;have H:st.qf.getD (d+j) 0=bM.getD j 0:=z j (by omega);have I:st.qf.getD (d+j-d) 0=if d<=j then bM.getD (j-d) 0 else 0:=by
   rw[show d+j-d=j by omega];split
   ·next h=>rw[<-z (j-d) (by omega)];congr 1;omega
   ·next h=>exact m j (by omega)
  have J:(st.now.take d++oQ f d s bM j++st.now.drop (d+j)).getD (d+j-d) 0=if d<=j then(oQ f d s bM j).getD (j-d) 0 else 0:=by
   rw[show d+j-d=j by omega];split
   ·next h=>rw[IY _ _ _ _ (by omega) (by omega),n]
   ·next h=>rw[IZ _ _ _ _ (by omega)];exact G j (by omega)
  rw[H,I,J]
 have e:(pM st d f j (oQ f d s bM j) a).now.set (d+j) (Ym f d s bM (oQ f d s bM j) j)=st.now.take d++oQ f d s bM (j+1)++st.now.drop (d+(j+1)):=by
  unfold pM;dsimp only;have q:st.now.drop (d+j)=st.now.getD (d+j) 0::st.now.drop (d+(j+1)):=by rw[ag,aB (by omega),Option.getD_some,<-dK,kX (by omega)]
  rw[q,List.set_append_right _ _ (by simp[c];omega),oQ];have:d+j-(st.now.take d++oQ f d s bM j).length=0:=by simp[c];omega
  rw[this,List.set_cons_zero];simp
 have g:((st.now.take d++oQ f d s bM (j+1)++st.now.drop (d+(j+1))).drop d).take (d+j+1-d)=oQ f d s bM (j+1):=by rw[bI,List.drop_append_of_le_length (by omega)];rw[fU (by omega),yD];rw[show d+j+1-d=(oQ f d s bM (j+1)).length by rw[Bh];omega,List.take_left]
 have r:(pM st d f j (oQ f d s bM j) a).pt=st.pt:=rfl;have k:(pM st d f j (oQ f d s bM j) a).at'=d+j:=rfl;have u:(pM st d f j (oQ f d s bM j) a).y=st.y:=rfl;have v:(pM st d f j (oQ f d s bM j) a).dQ=a:=rfl;have w:vM P t st.y (oQ f d s bM (j+1)) a=gG (P.px (oQ f d s bM (bJ P.bits t.W))) (rq P.W t st.y) (min (8*(j+1)/P.bits) t.W-8*j/P.bits) (8*j/P.bits) a:=by
  unfold vM;rw[Bh,show j+1-1=j by omega];refine Nj _ _ _ _ _ _ (fun i h1 h2=> ?_);refine B _ _ i (Qr _ _ _ _ _ _ (by omega)) ?_;rw[Bh];have l:i+1<=8*(j+1)/P.bits:=by omega
  exact aY (dM _ l) (Nat.div_mul_le_self _ _)
 unfold rX;rw[r,C];simp only;rw[k,ax (by omega),hd,p,e,g,u,v,w];congr 1
 funext b
 have x:(pM st d f j (oQ f d s bM j) a).now.length=d+bJ P.bits t.W:=o;rw[x];by_cases A:j+1=bJ P.bits t.W
 ·rw[aG A,aG (by omega)];rfl
 ·rw[ax A,ax (by omega)];rfl
theorem acW(P:xU)(i:Fz P)(hb:1<=P.bits)(st:d_)(t:jX)(s bM:List Nat)(h:SS P st t s bM)(f:Nat)(p:f<=4)(j:Nat)(k:j<bJ P.bits t.W):
 mJ P (f::s.take j) st=(gG (P.px (oQ f (aJ P.bits) s bM (bJ P.bits t.W))) (rq P.W t st.y) (8*j/P.bits) 0 st.dQ).map (pM st (aJ P.bits) f j (oQ f (aJ P.bits) s bM j)):=by
 induction j with
 |zero=>
  have e:rX P st f=some {st with f:=f,at':=aJ P.bits}:=by unfold rX;rw[h.pt];simp only[h.at0];rw[aG trivial,ax (by omega)]
  rw[Az,mJ,e];simp only[Option.bind_some,mJ,Nat.mul_zero,Nat.zero_div,gG,Option.map_some,pM,oQ,Nat.add_zero,List.append_nil,List.take_append_drop]
 |succ j g=>
  have q:=h.len;have c:j<s.length:=by omega
  have l:s.take (j+1)=s.take j++[s.getD j 0]:=by rw[List.take_add_one,aB c,ag,aB c];rfl
  have m:f::s.take (j+1)=(f::s.take j)++[s.getD j 0]:=by rw[l];rfl
  rw[m,oI,g (by omega)];clear g;have d:8*(j+1)<t.W*P.bits:=by unfold bJ at k;omega
  have n:8*(j+1)/P.bits<t.W:=by rw[Nat.div_lt_iff_lt_mul (by omega)];exact d
  have o:8*j/P.bits<=8*(j+1)/P.bits:=Nat.div_le_div_right (by omega);have a:=wV (P.px (oQ f (aJ P.bits) s bM (bJ P.bits t.W))) (rq P.W t st.y) (8*j/P.bits) (8*(j+1)/P.bits-8*j/P.bits) 0 st.dQ;rw[show 8*j/P.bits+(8*(j+1)/P.bits-8*j/P.bits)=8*(j+1)/P.bits by omega]at a;rw[a];cases hp:gG (P.px (oQ f (aJ P.bits) s bM (bJ P.bits t.W))) (rq P.W t st.y) (8*j/P.bits) 0 st.dQ with
  |none=>rfl
  |some b=>
   simp only[Option.map_some,Option.bind_some,mJ];rw[Nk P i hb st t s bM h f j (by omega) b,fQ,sH (by omega)];cases gG (P.px (oQ f (aJ P.bits) s bM (bJ P.bits t.W))) (rq P.W t st.y) (8*(j+1)/P.bits-8*j/P.bits) (8*j/P.bits) b with
   |none=>rfl
   |some r=>simp only[Option.map_some,Option.bind_some];rw[ax (by omega)]
theorem SV(P:xU)(i:Fz P)(hb:1<=P.bits)(st:d_)(t:jX)(s bM:List Nat)(h:SS P st t s bM)(f:Nat)(k:f<=4)(hW:1<=t.W):
 mJ P (f::s) st=(gG (P.px (oQ f (aJ P.bits) s bM (bJ P.bits t.W))) (rq P.W t st.y) t.W 0 st.dQ).map fun c=>kG P t (pM st (aJ P.bits) f (bJ P.bits t.W) (oQ f (aJ P.bits) s bM (bJ P.bits t.W)) c):=by
 have p:=h.len;have hm:1<=t.W*P.bits:=bD hW hb;obtain⟨j,e⟩:∃j,bJ P.bits t.W=j+1:=⟨bJ P.bits t.W-1,by unfold bJ;omega⟩;have d:j<s.length:=by omega
 have l:s=s.take j++[s.getD j 0]:=by have:s.take (j+1)=s:=dn (by omega);rw[List.take_add_one,aB d]at this;rw[ag,aB d];exact this.symm
 have m:f::s=(f::s.take j)++[s.getD j 0]:=by rw[nC,<-l]
 rw[m,oI,acW P i hb st t s bM h f k j (by omega)];have g:8*j<t.W*P.bits:=by unfold bJ at e;omega
 have n:8*j/P.bits<t.W:=by rw[Nat.div_lt_iff_lt_mul (by omega)];exact g
 have o:t.W<=8*(j+1)/P.bits:=by rw[Nat.le_div_iff_mul_le (by omega)];unfold bJ at e;omega
 have a:=wV (P.px (oQ f (aJ P.bits) s bM (bJ P.bits t.W))) (rq P.W t st.y) (8*j/P.bits) (t.W-8*j/P.bits) 0 st.dQ;rw[show 8*j/P.bits+(t.W-8*j/P.bits)=t.W by omega]at a;rw[a];cases hp:gG (P.px (oQ f (aJ P.bits) s bM (bJ P.bits t.W))) (rq P.W t st.y) (8*j/P.bits) 0 st.dQ with
 |none=>rfl
 |some b=>
  simp only[Option.map_some,Option.bind_some,mJ];rw[Nk P i hb st t s bM h f j (by omega) b,fQ,Nat.min_eq_right (by omega)];cases gG (P.px (oQ f (aJ P.bits) s bM (bJ P.bits t.W))) (rq P.W t st.y) (t.W-8*j/P.bits) (8*j/P.bits) b with
  |none=>rfl
  |some q=>simp only[Option.map_some,Option.bind_some];rw[aG (by omega),e]
theorem Yn(P:xU)(st:d_)(t:jX)(b:P.parts[st.pt]?=some t)(a:st.at'=0)(f:Nat)(c:4<f)(l:List Nat):mJ P (f::l) st=none:=by
 have e:rX P st f=none:=by unfold rX;rw[b];simp only[a];rw[aG trivial,aG c]
 rw[mJ,e];rfl
structure vN(P:xU)(st:d_)(t:jX)(bM:List Nat):Prop where
 pt:P.parts[st.pt]?=some t
 now:st.now.length=aJ P.bits+bJ P.bits t.W
 qf:st.qf.length=aJ P.bits+bJ P.bits t.W
 nz:∀i,i<aJ P.bits->st.now.getD i 0=0
 az:∀i,i<aJ P.bits->st.qf.getD i 0=0
 ab:∀i,i<bJ P.bits t.W->st.qf.getD (aJ P.bits+i) 0=bM.getD i 0
 at0:st.at'=0
theorem vN.rowAt{P:xU}{st:d_}{t:jX}{bM:List Nat}(h:vN P st t bM)(s:List Nat)(a:s.length=bJ P.bits t.W):SS P st t s bM:=⟨h.pt,a,h.now,h.nz,h.az,h.ab,h.at0⟩
theorem FB(n i:Nat):(List.replicate n 0).getD i 0=0:=by rw[ag,zA];split<;>rfl
theorem vN.begin{P:xU}{st:d_}{t:jX}(h:P.parts[st.pt]?=some t)(bM:List Nat)(a:∀i,bM.getD i 0=0):vN P (ru P st) t bM:=by unfold ru;rw[h];exact⟨h,by simp,by simp,fun i _=>FB _ _,fun i _=>FB _ _,fun i _=>by rw[a];exact FB _ _,rfl⟩
theorem vN.next{P:xU}{st:d_}{t:jX}{bM:List Nat}(h:vN P st t bM)(f:Nat)(U a:List Nat)(b:U.length=bJ P.bits t.W)(c:st.y+1<t.H):
 vN P (kG P t (pM st (aJ P.bits) f (bJ P.bits t.W) U a)) t U/\(kG P t (pM st (aJ P.bits) f (bJ P.bits t.W) U a)).y=st.y+1/\(kG P t (pM st (aJ P.bits) f (bJ P.bits t.W) U a)).dQ=a/\(kG P t (pM st (aJ P.bits) f (bJ P.bits t.W) U a)).pt=st.pt:=by
 have d:(st.now.take (aJ P.bits)).length=aJ P.bits:=by rw[eH];have:=h.now;omega
 have e:kG P t (pM st (aJ P.bits) f (bJ P.bits t.W) U a)={st with told:=st.told+1,y:=st.y+1,now:=st.qf,qf:=st.now.take (aJ P.bits)++U++st.now.drop (aJ P.bits+bJ P.bits t.W),at':=0,f:=f,dQ:=a}:=by unfold kG;rw[aG (show(pM st (aJ P.bits) f (bJ P.bits t.W) U a).y+1<t.H from c)];rfl
 rw[e];refine⟨⟨h.pt,h.qf,?_,h.az,fun i hi=> ?_,fun i hi=> ?_,rfl⟩,rfl,rfl,rfl⟩
 ·have:=h.now;simp[b];omega
 ·show(st.now.take (aJ P.bits)++U++st.now.drop (aJ P.bits+bJ P.bits t.W)).getD i 0=0;rw[IZ _ _ _ _ (by omega)];have:=h.nz i hi;rw[ag]at this|-;rw[dh hi];exact this
 ·show(st.now.take (aJ P.bits)++U++st.now.drop (aJ P.bits+bJ P.bits t.W)).getD (aJ P.bits+i) 0=U.getD i 0;rw[IY _ _ _ _ (by omega) (by omega),d];congr 1;omega
def vO(P:xU)(t:jX):Nat->Nat->List Nat->List Nat->List Nat->Option (List Nat)
 |0,_,_,_,dQ=>some dQ
 |k+1,y,bM,l,dQ=>
  if 4<l.getD 0 0 then none
  else(gG (P.px (oQ (l.getD 0 0) (aJ P.bits) ((l.drop 1).take (bJ P.bits t.W)) bM (bJ P.bits t.W))) (rq P.W t y) t.W 0 dQ).bind
   (vO P t k (y+1) (oQ (l.getD 0 0) (aJ P.bits) ((l.drop 1).take (bJ P.bits t.W)) bM (bJ P.bits t.W)) (l.drop (bJ P.bits t.W+1)))
def acX(P:xU)(o:Option d_)(pt:Nat)(r:Option (List Nat)):Prop:=
 (r=none->o=none)/\∀a,r=some a->∃qR,o=some qR/\qR.pt=pt/\qR.y=0/\qR.dQ=a/\∀b,P.parts[pt]?=some b->vN P qR b []
theorem abj(P:xU)(u:Fz P)(hb:1<=P.bits)(t:jX)(hW:1<=t.W)(k y:Nat)(bM l:List Nat)(st:d_)(h:vN P st t bM)(v:st.y=y)(J:t.H=y+(k+1))(w:l.length=(k+1)*(bJ P.bits t.W+1)):
 acX P (mJ P l st) (st.pt+1) (vO P t (k+1) y bM l st.dQ):=by
 induction k generalizing y bM l st with
 |zero=>
  have a:l.length=bJ P.bits t.W+1:=by omega
  cases l with
  |nil=>simp at a
  |cons f s=>
   have b:s.length=bJ P.bits t.W:=by simpa using a
   have g:(f::s).getD 0 0=f:=rfl;have i:((f::s).drop 1).take (bJ P.bits t.W)=s:=by rw[List.drop_one,List.tail_cons,dn (by omega)]
   rw[vO,g,i];by_cases c:4<f
   ·rw[aG c,Yn P st t h.pt h.at0 f c s];exact⟨fun _=>rfl,fun p e=>by cases e⟩
   ·rw[ax c,SV P u hb st t s bM (h.rowAt s b) f (by omega) hW,v];cases gG (P.px (oQ f (aJ P.bits) s bM (bJ P.bits t.W))) (rq P.W t y) t.W 0 st.dQ with
    |none=>exact⟨fun _=>rfl,fun p e=>by cases e⟩
    |some p=>
     refine⟨fun e=>(Option.some_ne_none _ e).elim,fun x e=> ?_⟩;have z:p=x:=by simpa [vO]using e
     subst z;have d:kG P t (pM st (aJ P.bits) f (bJ P.bits t.W) (oQ f (aJ P.bits) s bM (bJ P.bits t.W)) p)=ru P {pM st (aJ P.bits) f (bJ P.bits t.W) (oQ f (aJ P.bits) s bM (bJ P.bits t.W)) p with told:=st.told+1,pt:=st.pt+1,y:=0}:=by unfold kG;rw[ax (show¬(pM st (aJ P.bits) f (bJ P.bits t.W) (oQ f (aJ P.bits) s bM (bJ P.bits t.W)) p).y+1<t.H by show¬st.y+1<t.H;omega)];rfl
     refine⟨_,rfl,?_,?_,?_,fun A j=> ?_⟩
     ·show(kG P t (pM st (aJ P.bits) f (bJ P.bits t.W) (oQ f (aJ P.bits) s bM (bJ P.bits t.W)) p)).pt=_;rw[d];unfold ru;split<;>rfl
     ·show(kG P t (pM st (aJ P.bits) f (bJ P.bits t.W) (oQ f (aJ P.bits) s bM (bJ P.bits t.W)) p)).y=_;rw[d];unfold ru;split<;>rfl
     ·show(kG P t (pM st (aJ P.bits) f (bJ P.bits t.W) (oQ f (aJ P.bits) s bM (bJ P.bits t.W)) p)).dQ=_;rw[d];unfold ru;split<;>rfl
     ·show vN P (kG P t (pM st (aJ P.bits) f (bJ P.bits t.W) (oQ f (aJ P.bits) s bM (bJ P.bits t.W)) p)) A [];rw[d];exact vN.begin j [] (fun _=>rfl)
 |succ k B=>
  have a:l.length=(bJ P.bits t.W+1)+(k+1)*(bJ P.bits t.W+1):=by rw[w,eF (k+1) 1];omega
  cases l with
  |nil=>simp at a
  |cons f m=>
   have C:m.length=bJ P.bits t.W+(k+1)*(bJ P.bits t.W+1):=by simp at a;omega
   obtain⟨s,n⟩:∃s,s=m.take (bJ P.bits t.W):=⟨_,rfl⟩;obtain⟨r,o⟩:∃r,r=m.drop (bJ P.bits t.W):=⟨_,rfl⟩;have b:s.length=bJ P.bits t.W:=by rw[n,eH];omega
   have q:r.length=(k+1)*(bJ P.bits t.W+1):=by rw[o,jm];omega
   have hm:m=s++r:=by rw[n,o,nS]
   have g:(f::m).getD 0 0=f:=rfl;have i:((f::m).drop 1).take (bJ P.bits t.W)=s:=by rw[List.drop_one,List.tail_cons,n]
   have D:(f::m).drop (bJ P.bits t.W+1)=r:=by rw[List.drop_succ_cons,o]
   rw[vO,g,i,D];by_cases c:4<f
   ·rw[aG c,Yn P st t h.pt h.at0 f c m];exact⟨fun _=>rfl,fun p e=>by cases e⟩
   ·rw[ax c,hm,<-nC,oI,SV P u hb st t s bM (h.rowAt s b) f (by omega) hW,v];cases gG (P.px (oQ f (aJ P.bits) s bM (bJ P.bits t.W))) (rq P.W t y) t.W 0 st.dQ with
    |none=>exact⟨fun _=>rfl,fun p e=>by cases e⟩
    |some p=>simp only[Option.map_some,Option.bind_some];obtain⟨E,F,G,I⟩:=h.next f (oQ f (aJ P.bits) s bM (bJ P.bits t.W)) p (Bh _ _ _ _ _) (by omega);have:=B (y+1) (oQ f (aJ P.bits) s bM (bJ P.bits t.W)) r (kG P t (pM st (aJ P.bits) f (bJ P.bits t.W) (oQ f (aJ P.bits) s bM (bJ P.bits t.W)) p)) E (by rw[F];omega) (by omega) q;rw[G,I]at this;exact this
def kH(bits:Nat):List jX->Nat
 | []=>0
 |t::a=>t.H*(1+bJ bits t.W)+kH bits a
def FC(P:xU):List jX->List Nat->List Nat->Option (List Nat)
 | [],_,dQ=>some dQ
 |t::a,l,dQ=>(vO P t t.H 0 [] (l.take (t.H*(1+bJ P.bits t.W))) dQ).bind (FC P a (l.drop (t.H*(1+bJ P.bits t.W))))
theorem Yo(P:xU)(o:Fz P)(hb:1<=P.bits)(c:∀t∈P.parts,1<=t.W/\1<=t.H)(d:List jX)(st:d_)(l:List Nat)(a:d=P.parts.drop st.pt)(q:st.y=0)(r:∀t,P.parts[st.pt]?=some t->vN P st t [])(f:l.length=kH P.bits d):
 (mJ P l st).map (fun s=>s.dQ)=FC P d l st.dQ:=by
 induction d generalizing st l with
 |nil=>have:l=[]:=gm (by simpa [kH]using f);subst this;rfl
 |cons t d u=>
  have b:st.pt<P.parts.length:=by
   rcases bW st.pt P.parts.length with h|h
   ·exact h
   ·rw[fU h]at a;cases a
  rw[kX b]at a;obtain⟨i,v⟩:=List.cons.inj a;have w:P.parts[st.pt]?=some t:=by rw[aB b,i]
  obtain⟨h1,h2⟩:=c t (by rw[i];exact wo b);have hle:t.H*(1+bJ P.bits t.W)<=l.length:=by rw[f,kH];omega
  obtain⟨k,j⟩:∃k,t.H=k+1:=⟨t.H-1,by omega⟩;have e:=abj P o hb t h1 k 0 [] (l.take (t.H*(1+bJ P.bits t.W))) st (r t w) q (by omega) (by rw[eH,sH hle,j,Nat.add_comm 1]);have g:mJ P l st=(mJ P (l.take (t.H*(1+bJ P.bits t.W))) st).bind (mJ P (l.drop (t.H*(1+bJ P.bits t.W)))):=by rw[<-oI,nS]
  rw[g,FC];rw[<-j]at e;cases m:vO P t t.H 0 [] (l.take (t.H*(1+bJ P.bits t.W))) st.dQ with
  |none=>rw[m]at e;rw[e.1 rfl];rfl
  |some p=>rw[m]at e;obtain⟨qR,x,n,z,A,B⟩:=e.2 p rfl;rw[x];simp only[Option.bind_some];have:=u qR (l.drop (t.H*(1+bJ P.bits t.W))) (by rw[n];exact v) z (by rw[n];exact B) (by rw[jm,f,kH];omega);rw[this,A]
end Pr
namespace lI
open Go.RowKit Rf
end lI
namespace Pr
open Go.RowKit Rf
open gI (dL)
noncomputable def VK(K D:Nat)(pl tr:ByteArray)(ted:Bool)(X:List Nat):Option (Nat×Nat×Nat×Nat):=
 open Classical in
 if K=3 then(if pl.size<=3*X.getD 0 0 then none else some (dL (aF pl (3*X.getD 0 0)) 8,dL (aF pl (3*X.getD 0 0+1)) 8,dL (aF pl (3*X.getD 0 0+2)) 8,if X.getD 0 0<tr.size then dL (aF tr (X.getD 0 0)) 8 else 65535))
 else if K=4 then some (dL (X.getD 0 0) D,dL (X.getD 0 0) D,dL (X.getD 0 0) D,dL (X.getD 1 0) D)
 else if K=6 then some (dL (X.getD 0 0) D,dL (X.getD 1 0) D,dL (X.getD 2 0) D,dL (X.getD 3 0) D)
 else if K=0 then some (dL (X.getD 0 0) D,dL (X.getD 0 0) D,dL (X.getD 0 0) D,if ted=true/\∀i,i<X.length->256*aF tr (2*i)+aF tr (2*i+1)=X.getD i 0 then 0 else 65535)
 else some (dL (X.getD 0 0) D,dL (X.getD 1 0) D,dL (X.getD 2 0) D,if ted=true/\∀i,i<X.length->256*aF tr (2*i)+aF tr (2*i+1)=X.getD i 0 then 0 else 65535)
end Pr
end Go.Proofs.YtephkcdbnogdhabGreatDoor
