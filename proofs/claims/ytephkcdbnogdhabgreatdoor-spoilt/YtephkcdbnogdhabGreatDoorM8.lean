import Derived.Test.YtephkcdbnogdhabGreatDoorM1
import Derived.Test.YtephkcdbnogdhabGreatDoorM5
set_option linter.unusedVariables false
set_option maxHeartbeats 40000000
set_option maxRecDepth 10000
namespace Go.Proofs.YtephkcdbnogdhabGreatDoor
open Go.Proofs.Tryz
open Go renaming World->af,Value->ay,Calls->aH
open Go.RowKit renaming Hid->au,intOf->bH
namespace Ad
def raw:Nat->Nat->List UInt8->Nat×Nat
 |a,b,[]=>(a,b)
 |a,b,c::l=>raw (a+c.toNat) (b+(a+c.toNat)) l
def oM:Nat->Nat->List UInt8->Nat×Nat
 |a,b,[]=>(a,b)
 |a,b,c::l=>oM ((a+c.toNat)%65521) ((b+(a+c.toNat)%65521)%65521) l
theorem OU(l m:List UInt8):∀a b:Nat,oM a b (l++m)=oM (oM a b l).1 (oM a b l).2 m:=by
 induction l with
 |nil=>intro a b;rfl
 |cons c l d=>intro a b;simp only[List.cons_append,oM];exact d _ _
theorem xB(l:List UInt8):∀a b:Nat,a<=65520->b<=65520->(oM a b l).1<=65520/\(oM a b l).2<=65520:=by
 induction l with
 |nil=>intro a b d hb;exact⟨d,hb⟩
 |cons c l e=>intro a b d hb;exact e _ _ (by omega) (by omega)
theorem Eh(l:List UInt8)(c:UInt8)(a b:Nat):oM a b (l++[c])=(((oM a b l).1+c.toNat)%65521,((oM a b l).2+((oM a b l).1+c.toNat)%65521)%65521):=by rw[OU];rfl
end Ad
namespace Jo
open Go.RowKit Ad
theorem Jp(s:ByteArray)(k:Nat)(h:k<s.size):s.data.toList.take (k+1)=s.data.toList.take k++[s[k]]:=by rw[dN (by simpa using h)];rfl
theorem WM(s:ByteArray)(k:Nat)(h:k<s.size)(a b:Nat):oM a b (s.data.toList.take (k+1))=(((oM a b (s.data.toList.take k)).1+s[k].toNat)%65521,((oM a b (s.data.toList.take k)).2+((oM a b (s.data.toList.take k)).1+s[k].toNat)%65521)%65521):=by rw[Jp s k h,Eh]
theorem OV{k:IntKind}{a b:Int}(h:a=b):Ending.returned (.int k a)= .returned (.int k b):=by rw[h]
theorem Ls(s:ByteArray)(k:Nat)(h:¬k<s.size):s.data.toList.take k=s.data.toList:=dn (by simp;omega)
theorem acE(x y:Nat)(a:x<=65520)(b:y<=65520):bits BinOp.or IntKind.u32 ((y:Int)*65536) (x:Int)=((65536*y+x:Nat):Int):=by
 have h:=u32_or_nat (y*65536) x (by omega) (by omega);have e:y*65536|||x=65536*y+x:=by rw[eP y];exact(jZ (i:=16) (by omega) y).symm
 rw[e]at h;rw[<-h];congr 1
theorem OW(v:Nat)(h:v<4294967296):bits BinOp.and IntKind.u32 (v:Int) 65535=((v%65536:Nat):Int):=by have h:=u32_and_nat v 65535 h (by omega);have e:v&&&65535=v%65536:=lF v 16;rw[e]at h;exact h
def DV(v c:Nat):Nat:=65536*((v/65536+(v%65536+c)%65521)%65521)+(v%65536+c)%65521
def one(p:Nat×Nat):Nat:=65536*p.2+p.1
theorem Jq(p:Nat×Nat)(h:p.1<=65520):one p%65536=p.1:=by unfold one;omega
theorem Jr(p:Nat×Nat)(h:p.1<=65520):one p/65536=p.2:=by unfold one;omega
theorem OX(s:ByteArray)(k:Nat)(h:k<s.size):one (oM 1 0 (s.data.toList.take (k+1)))=DV (one (oM 1 0 (s.data.toList.take k))) s[k].toNat:=by have hb:=xB (s.data.toList.take k) 1 0 (by omega) (by omega);rw[WM s k h];unfold DV;rw[Jq _ hb.1,Jr _ hb.1];rfl
theorem OY(v c:Nat)(h1:v%65536<=65520)(h2:v/65536<=65520)(a:c<=255):∃x y t p z q:Nat,DV v c=65536*q+p/\v<4294967296/\v%65536=x/\(v:Int)/65536=(y:Int)/\(x:Int)+(c:Int)=(t:Int)/\(y:Int)+(p:Int)=(z:Int)/\t<=70000/\z<=140000/\p<=65520/\q<=65520/\
 (decide ((65521:Int)<=(t:Int))=false/\p=t\/(decide ((65521:Int)<=(t:Int))=true/\65521<=t)/\(t:Int)-65521=(p:Int))/\(decide ((65521:Int)<=(z:Int))=false/\q=z\/(decide ((65521:Int)<=(z:Int))=true/\65521<=z)/\(z:Int)-65521=(q:Int)):=by
 refine⟨v%65536,v/65536,v%65536+c,(v%65536+c)%65521,v/65536+(v%65536+c)%65521,(v/65536+(v%65536+c)%65521)%65521,rfl,by omega,rfl,by omega,by omega,by omega,by omega,by omega,by omega,by omega,?_,?_⟩
 ·by_cases h:v%65536+c<65521
  ·exact .inl ⟨aS (by omega),by omega⟩
  ·exact .inr ⟨⟨aZ (by omega),by omega⟩,by omega⟩
 ·by_cases h:v/65536+(v%65536+c)%65521<65521
  ·exact .inl ⟨aS (by omega),by omega⟩
  ·exact .inr ⟨⟨aZ (by omega),by omega⟩,by omega⟩
theorem Ei(V c:Nat)(w:af)(h1:V%65536<=65520)(h2:V/65536<=65520)(h:c<=255):
 aH prog 34 #[.int .u32 (V:Int),.int .u8 (c:Int)] w fun e w'=>e= .returned (.int .u32 ((DV V c:Nat):Int))/\w'=w:=by
 obtain⟨x,y,t,p,z,q,f,i,g,e3,m,n,o,r,j,k,b,a⟩:=OY V c h1 h2 h;rw[f];have s:bits BinOp.and IntKind.u32 (V:Int) 65535=(x:Int):=by rw[OW V i,g]
 have u:=acE p q j k;clear f g h1 h2;rcases b with⟨h1,rfl⟩|⟨⟨h1,l⟩,v⟩
 ·rcases a with⟨h2,rfl⟩|⟨⟨h2,d⟩,eq⟩
  ·go_enter func34,ntmps34
   go_wp2
   go_ret;exact⟨rfl,rfl⟩
  ·go_enter func34,ntmps34
   go_wp2
   go_ret;exact⟨rfl,rfl⟩
 ·rcases a with⟨h2,rfl⟩|⟨⟨h2,d⟩,eq⟩
  ·go_enter func34,ntmps34
   go_wp2
   go_ret;exact⟨rfl,rfl⟩
  ·go_enter func34,ntmps34
   go_wp2
   go_ret;exact⟨rfl,rfl⟩
theorem TP(s:ByteArray)(w:af)(j:s.size<=maxLen):
 aH prog 27 #[.string s] w fun e w'=>e= .returned (.int .u32 ((65536*(oM 1 0 s.data.toList).2+(oM 1 0 s.data.toList).1:Nat):Int))/\w'=w:=by
 unfold maxLen at j;go_enter func27,ntmps27
 go_wp2
 go_loop [3,7] (fun c i=> ∃k:Nat,k<=s.size/\i= .int .i64 k/\c= .int .u32 ((one (oM 1 0 (s.data.toList.take k)):Nat):Int)) (fun _ i=>s.size-(bH i).toNat)
 case atStart=>exact⟨0,aX _,rfl,rfl⟩
 case round=>
  obtain⟨k,n,rfl,rfl⟩:=hrel;by_cases d:k<s.size
  ·obtain⟨a,f⟩:=xB (s.data.toList.take k) 1 0 (by omega) (by omega);have l:au _:=OX s k d;have b:s[k].toNat<=255:=by have:=s[k].toNat_lt;omega
   have H1:au (one (oM 1 0 (s.data.toList.take k))%65536<=65520):=(by rw[Jq _ a];exact a:_<=_);have m:au (one (oM 1 0 (s.data.toList.take k))/65536<=65520):=(by rw[Jr _ a];exact f:_<=_);clear a f;generalize one (oM 1 0 (s.data.toList.take k))=A at*;go_wp2_with fail
   refine(Ei A s[k].toNat _ H1.out m.out b).mono ?_;rintro e w' ⟨rfl,rfl⟩;go_wp2_with fail
   go_round
   case rel=>exact⟨k+1,by omega,by go_num,by rw[l.out]⟩
   case measure=>simp[bH];omega
  ·rw[Ls s k d];generalize h:one (oM 1 0 s.data.toList)=A;have g:au _:=h;clear h;go_wp2
   go_ret;exact⟨OV (by rw[<-g.out];rfl),rfl⟩
end Jo
namespace gI
open Go.RowKit Rf
def inW(l s:ByteArray):Prop:=∃i,i+s.size<=l.size/\l.extract i (i+s.size)=s
end gI
namespace Rf
def jH(s:ByteArray)(aO most:Nat)(B:List (Nat×List UInt8))(y:Nat)(u:US):US:=
 if(jr s aO u.out.length B y u.st).stop=true then⟨(jr s aO u.out.length B y u.st).st,u.out⟩else GL most (jr s aO u.out.length B y u.st).Es (jr s aO u.out.length B y u.st).n ⟨(jr s aO u.out.length B y u.st).st,u.out⟩
theorem Vp(s:ByteArray)(cs:List (Nat×List UInt8))(k:Nat):∀pre st,(qw s cs k pre st).2.dV=true->(qw s cs k pre st).1=0:=by
 induction k with
 |zero=>intro pre st _;rfl
 |succ k a=>
  intro pre st h;rw[qw]at h|-;by_cases h1:st.dV=true
  ·rw[aG h1]
  ·rw[ax h1]at h|-;by_cases h2:(kE s st).2.dV=true
   ·rw[aG h2]
   ·rw[ax h2]at h|-;split at h
    ·exact absurd h h2
    ·exact a _ _ h
theorem Jd(s:ByteArray)(cs:List (Nat×List UInt8))(st:dG)(h:(dX s cs st).2.dV=true):(dX s cs st).1=0:=Vp s cs 15 [] st h
theorem Vq(s:ByteArray)(cs:List (Nat×List UInt8))(st:dG)(h:st.dV=true):(dX s cs st).2.dV=true:=by unfold dX;rw[WQ s cs 15 [] st h]
theorem yP{s:ByteArray}{aO most:Nat}{B:List (Nat×List UInt8)}{y:Nat}{u:US}(h:(jr s aO u.out.length B y u.st).st.dV=true):(jH s aO most B y u).st.dV=true:=by
 unfold jH;split
 ·exact h
 ·rw[Ea _ _ _ _ h];exact h
theorem FV{s:ByteArray}{aO most:Nat}{B:List (Nat×List UInt8)}{y:Nat}{u:US}(h:(dX s B (bZ s (jq y).2 u.st).2).2.dV=true):(jH s aO most B y u).st.dV=true:=by
 apply yP;have h0:=Jd s B _ h;rw[vw s aO u.out.length B y u.st (by omega)];dsimp only;split
 ·rfl
 ·exact mX s _ _ h
theorem Vr{s:ByteArray}{aO most:Nat}{B:List (Nat×List UInt8)}{y:Nat}{u:US}(h:(bZ s (jq y).2 u.st).2.dV=true):(jH s aO most B y u).st.dV=true:=FV (Vq s B _ h)
theorem Je{s:ByteArray}{aO most:Nat}{B:List (Nat×List UInt8)}{y:Nat}{u:US}(h:29<(dX s B (bZ s (jq y).2 u.st).2).1):(jH s aO most B y u).st.dV=true:=by apply yP;rw[Et s aO u.out.length B y u.st h]
theorem QH{s:ByteArray}{aO most:Nat}{B:List (Nat×List UInt8)}{y:Nat}{u:US}(h0:¬29<(dX s B (bZ s (jq y).2 u.st).2).1)
 (h:(bZ s (jh (dX s B (bZ s (jq y).2 u.st).2).1).2 (dX s B (bZ s (jq y).2 u.st).2).2).2.dV=true):(jH s aO most B y u).st.dV=true:=by
 apply yP;rw[vw s aO u.out.length B y u.st h0];dsimp only;split
 ·rfl
 ·exact h
theorem YO(most Es:Nat)(n:Nat):∀u:US,most<u.out.length+n->u.out.length<=most->(GL most Es n u).st.dV=true:=by
 induction n with
 |zero=>intro u h h2;omega
 |succ n c=>
  intro u h h2;by_cases hb:u.st.dV=true
  ·rw[Ea _ _ _ _ hb];exact hb
  ·have a:u.st.dV=false:=by simpa using hb
   rw[WT most Es n u a];by_cases b:most<=u.out.length
   ·rw[rY most _ u b];rw[Ea _ _ _ _ rfl]
   ·rw[rM most _ u b a];exact c _ (by simp;omega) (by simp;omega)
theorem QI{s:ByteArray}{aO most:Nat}{B:List (Nat×List UInt8)}{y:Nat}{u:US}(a:u.out.length<=most)(h:¬u.out.length+((jq y).1+(bZ s (jq y).2 u.st).1)<=most):(jH s aO most B y u).st.dV=true:=by
 by_cases h0:29<(dX s B (bZ s (jq y).2 u.st).2).1
 ·exact Je h0
 ·unfold jH;rw[vw s aO u.out.length B y u.st h0];rw[ax (by simp)];exact YO most _ _ _ (by dsimp only;omega) a
theorem NR{s:ByteArray}{aO most:Nat}{B:List (Nat×List UInt8)}{y pos c e b f d a:Nat}{out:List UInt8}(h1:bZ s (jq y).2 ⟨pos,false⟩=(f,⟨c,false⟩))(h2:dX s B ⟨c,false⟩=(d,⟨e,false⟩))(g:d<=29)(i:bZ s (jh d).2 ⟨e,false⟩=(a,⟨b,false⟩)):
 jH s aO most B y ⟨⟨pos,false⟩,out⟩=if aO<(jh d).1+a\/out.length<(jh d).1+a then⟨⟨b,true⟩,out⟩else GL most ((jh d).1+a) ((jq y).1+f) ⟨⟨b,false⟩,out⟩:=by
 unfold jH;rw[vw s aO out.length B y ⟨pos,false⟩ (by rw[h1,h2];exact Nat.not_lt.2 g)];rw[ax (by simp)];dsimp only;rw[h1];dsimp only;rw[h2];dsimp only;rw[i];dsimp only;by_cases h:aO<(jh d).1+a\/out.length<(jh d).1+a
 ·rw[aG h,aG h,Ea _ _ _ _ rfl]
 ·rw[ax h,ax h]
theorem NS(s:ByteArray)(aO most:Nat)(A B:List (Nat×List UInt8))(f:Nat)(u:US)(h:u.st.dV=false)(h2:(dX s A u.st).2.dV=false)(b:257<=(dX s A u.st).1)(c:(dX s A u.st).1<=285):
 iZ s aO most A B (f+1) u=(if(jr s aO u.out.length B (dX s A u.st).1 (dX s A u.st).2).stop=true then jH s aO most B (dX s A u.st).1 ⟨(dX s A u.st).2,u.out⟩else iZ s aO most A B f (jH s aO most B (dX s A u.st).1 ⟨(dX s A u.st).2,u.out⟩)):=by
 unfold jH;dsimp only;by_cases a:(jr s aO u.out.length B (dX s A u.st).1 (dX s A u.st).2).stop=true
 ·rw[aG a,TU s aO most A B f u h h2 b c a,aG a]
 ·rw[ax a,O_ s aO most A B f u h h2 b c (by simpa using a),ax a]
theorem NT(s:ByteArray)(aO len:Nat)(B:List (Nat×List UInt8))(y:Nat)(st:dG)(h:(jr s aO len B y st).stop=true):(jr s aO len B y st).st.dV=true:=by
 by_cases h0:29<(dX s B (bZ s (jq y).2 st).2).1
 ·rw[Et s aO len B y st h0]
 ·rw[vw s aO len B y st h0]at h;simp at h
theorem Ti(y:Nat)(h1:257<=y)(h2:y<=285):3<=(jq y).1:=by
 unfold jq;split
 ·dsimp only;omega
 ·have h:=(RX (y-257) 257 3 (by omega)).1;dsimp only;generalize TQ (y-257) 257 3=z at*;exact h
theorem Ae(a b:Nat)(st:dG)(h:st.dV=true):(AL a b st).dV=true:=by
 unfold AL;split
 ·rfl
 ·exact h
theorem DJ(s:ByteArray)(j:Nat):∀i L st,st.dV=true->(nD s j i L st).2.dV=true:=by
 induction j with
 |zero=>intro i L st h;exact h
 |succ j a=>intro i L st h;exact a _ _ _ (mX s 3 st h)
theorem Jf(m:Nat)(st:dG)(h:st.dV=true):(DW m st).dV=true:=by
 unfold DW;split
 ·exact h
 ·rfl
theorem FW(s:ByteArray)(a b n:Nat)(st:dG)(h:(DW (bK (nD s n 0 (List.replicate 19 0) st).1).xk (nD s n 0 (List.replicate 19 0) st).2).dV=true):(AO s a b n st).2.dV=true:=by unfold AO;rw[Ij _ _ _ _ _ _ h];exact h
theorem Af(s:ByteArray)(aO most a b:Nat)(out:List UInt8)(L:List Nat)(st:dG)(h:st.dV=true\/L.length≠a+b):(BR s aO most a b out L st).st.dV=true:=by rw[WY s aO most a b out L st h]
def uq(s:ByteArray)(st:dG):Nat×Nat×Nat×dG:=
 ((bZ s 5 st).1+257,(bZ s 5 (bZ s 5 st).2).1+1,(bZ s 4 (bZ s 5 (bZ s 5 st).2).2).1+4,AL ((bZ s 5 st).1+257) ((bZ s 5 (bZ s 5 st).2).1+1) (bZ s 4 (bZ s 5 (bZ s 5 st).2).2).2)
theorem Ed(s:ByteArray)(aO most:Nat)(u:US):AP s aO most u=BR s aO most (uq s u.st).1 (uq s u.st).2.1 u.out (AO s (uq s u.st).1 (uq s u.st).2.1 (uq s u.st).2.2.1 (uq s u.st).2.2.2).1 (AO s (uq s u.st).1 (uq s u.st).2.1 (uq s u.st).2.2.1 (uq s u.st).2.2.2).2:=rfl
theorem abu(s:ByteArray)(aO most:Nat)(u:US)(h:(uq s u.st).2.2.2.dV=true):(AP s aO most u).st.dV=true:=by rw[Ed];exact Af _ _ _ _ _ _ _ _ (.inl (FW _ _ _ _ _ (Jf _ _ (DJ _ _ _ _ _ h))))
def KF(s:ByteArray)(n:Nat)(st:dG):List Nat×dG:=nD s n 0 (List.replicate 19 0) st
theorem Vs(s:ByteArray)(aO most:Nat)(u:US)(h:(DW (bK (KF s (uq s u.st).2.2.1 (uq s u.st).2.2.2).1).xk (KF s (uq s u.st).2.2.1 (uq s u.st).2.2.2).2).dV=true):(AP s aO most u).st.dV=true:=by rw[Ed];exact Af _ _ _ _ _ _ _ _ (.inl (FW _ _ _ _ _ h))
theorem abw(s:ByteArray)(n:Nat)(st:dG):(KF s n st).1.length=19:=by unfold KF;rw[Pn];simp
theorem YP(s:ByteArray)(n:Nat)(st:dG):∀x∈(KF s n st).1,x<=15:=T_ s n 0 _ st (fun x a=>by rw[List.eq_of_mem_replicate a];omega)
theorem qO(L:List Nat)(h:vz L=0):iR L=0:=by
 induction L with
 |nil=>rfl
 |cons x L b=>
  have a:¬0<x:=by intro a;unfold vz at h;simp[a]at h
  have h2:vz L=0:=by unfold vz at h|-;simpa [List.filter_cons,a]using h
  unfold iR at*;rw[List.map_cons,List.sum_cons,ax a,b h2]
theorem FX(most:Nat)(x:UInt8)(u:US):u.out<+:(uO most x u).out:=by
 unfold uO;split
 ·exact dO _
 ·split
  ·exact dO _
  ·exact List.prefix_append _ _
theorem Tj(s:ByteArray)(most:Nat)(k:Nat):∀u:US,u.out<+:(GK s most k u).out:=by
 induction k with
 |zero=>intro u;exact dO _
 |succ k a=>
  intro u;rw[GK];split
  ·exact dO _
  ·exact(FX most _ ⟨(bZ s 8 u.st).2,u.out⟩).trans (a _)
theorem NU(s:ByteArray)(most:Nat)(u:US):u.out<+:(jA s most u).out:=Tj s most _ ⟨(qg s u.st).2,u.out⟩
theorem Tm(most Es:Nat)(k:Nat):∀u:US,u.out<+:(GL most Es k u).out:=by
 induction k with
 |zero=>intro u;exact dO _
 |succ k a=>
  intro u;rw[GL];split
  ·exact dO _
  ·exact(FX most _ u).trans (a _)
theorem yQ(s:ByteArray)(aO most:Nat)(A B:List (Nat×List UInt8))(f:Nat):∀u:US,u.out<+:(iZ s aO most A B f u).out:=by
 induction f with
 |zero=>intro u;exact dO _
 |succ f a=>
  intro u;rw[iZ];split
  ·exact dO _
  ·dsimp only;split
   ·exact dO _
   ·split
    ·exact(FX most _ ⟨(dX s A u.st).2,u.out⟩).trans (a _)
    ·split
     ·exact dO _
     ·split
      ·exact dO _
      ·split
       ·exact dO _
       ·refine List.IsPrefix.trans ?_ (a _);exact Tm most _ _ ⟨(jr s aO u.out.length B (dX s A u.st).1 (dX s A u.st).2).st,u.out⟩
theorem YQ(s:ByteArray)(aO most a b:Nat)(out:List UInt8)(L:List Nat)(st:dG):out<+:(BR s aO most a b out L st).out:=by
 unfold BR;split
 ·exact dO _
 ·split
  ·exact dO _
  ·exact yQ s aO most _ _ _ ⟨st,out⟩
theorem YR(s:ByteArray)(aO most:Nat)(u:US):u.out<+:(AP s aO most u).out:=YQ s aO most _ _ u.out _ _
theorem Vt(s:ByteArray)(aO most y:Nat)(u:US):u.out<+:(qh s aO most y u).out:=by
 unfold qh;split
 ·exact dO _
 ·split
  ·exact NU s most u
  ·split
   ·exact yQ s aO most _ _ _ u
   ·split
    ·exact YR s aO most u
    ·exact dO _
theorem NV(s:ByteArray)(aO most:Nat)(u:US):u.out<+:(iI s aO most u).2.out:=Vt s aO most _ ⟨(bZ s 2 (kE s u.st).2).2,u.out⟩
theorem YS(s:ByteArray)(aO most:Nat)(f:Nat):∀u:US,u.out<+:(xC s aO most f u).out:=by
 induction f with
 |zero=>intro u;exact dO _
 |succ f a=>
  intro u;rw[xC];split
  ·exact dO _
  ·split
   ·exact(NV s aO most u).trans (a _)
   ·exact NV s aO most u
end Rf
namespace gI
open Go.RowKit Rf
def Oh(d:ByteArray)(D K:Nat):Prop:=d.size=2*zB K/\∀i,i<zB K->256*aF d (2*i)+aF d (2*i+1)<pw D
end gI
namespace Jo
open Go.RowKit Ad
end Jo
namespace Qt
section
variable {P:Program} {ops:Array Oper} {md:Region.Mode} {C:af->Prop}
def yj(P:Program)(md:Region.Mode)(ops:Array Oper)(C:af->Prop)(n:Nat)(L:Array Bool->Act->Prop):Nat->Array Bool->Act->Prop
 |0,listed,a=>L listed a
 |f+1,listed,a=>Region.ready md ops listed≠[]/\∀i∈Region.ready md ops listed,i<n/\qOp P ops C i (yj P md ops C n L f (listed.setIfInBounds i true)) a
theorem tN{n g:Nat}{L:Array Bool->Act->Prop}{Q':Exit->Act->af->Prop}(hL:∀listed a w,C w->L listed a->wpAny P md ops Q' g listed a w):
 ∀(f:Nat) (listed:Array Bool) (a:Act) (w:af),C w->yj P md ops C n L f listed a->wpAny P md ops Q' (f+g) listed a w
 |0,listed,a,w,hw,h=>by rw[fQ];exact hL _ _ _ hw h
 |f+1,listed,a,w,hw,h=>by rw[show f+1+g=(f+g)+1 by omega];exact⟨fun h0=>absurd h0 h.1,fun i hi=>wpOp_of_qOp hw (fun a' w' hw' h'=>tN hL f _ a' w' hw' h') (h.2 i hi).2⟩
theorem KO{n i:Nat}{oi:Oper}{v:ay}{L:Array Bool->Act->Prop}(hi:ops[i]?=some oi)(hsel:∀(j:Nat) (o:Oper) cs b,ops[j]?=some o->o.op≠ .select cs b)
 (hs:Region.sinkB md ops n=true) (hc:Region.chainB md ops n=true) (hn:n<ops.size) (hin:i<n)
 (hdone:∀listed a,L listed a->∀j∈Region.ready md ops listed,n<=j):
 ∀(f:Nat) (listed:Array Bool) (a:Act),HeadInv md ops n listed->
  (∀j oj,ops[j]?=some oj->j≠i->listed.getD j true=false->(∀e∈oj.after,Region.binds md e=true->e.on≠i)->oi.apart ops oj=true)->
  i∈Region.ready md ops listed->YieldsIn P ops C oi v a->
  yj P md ops C n L f (listed.setIfInBounds i true) (a.put oi.dst v)->yj P md ops C n L (f+1) listed a:=by
 intro f;induction f with
 |zero=>
  intro listed a inv _ hr hy H;have hun:=(mem_ready.1 hr).1;refine⟨fun h=>(by rw[h]at hr;cases hr),fun j hj=> ?_⟩;have hjn:j<n:=by
   rcases bW j n with h|h
   ·exact h
   ·exact absurd hj (tail_waits hs hc hn inv _ i rfl hin hun j h)
  refine⟨hjn,?_⟩;by_cases hji:j=i
  ·subst hji;exact hy.qOp hi H
  ·have:=hdone _ _ H j (ready_mono hj hji);omega
 |succ f ih=>
  intro listed a inv hfree hr hy H;have hun:=(mem_ready.1 hr).1;refine⟨fun h=>(by rw[h]at hr;cases hr),fun j hj=> ?_⟩;have hjn:j<n:=by
   rcases bW j n with h|h
   ·exact h
   ·exact absurd hj (tail_waits hs hc hn inv _ i rfl hin hun j h)
  refine⟨hjn,?_⟩;by_cases hji:j=i
  ·subst hji;exact hy.qOp hi H
  ·have h1:=(H.2 j (ready_mono hj hji)).2;obtain⟨hjun,oj,hoj,hall⟩:=mem_ready.1 hj;have hnot:∀e∈oj.after,Region.binds md e=true->e.on≠i:=fun e he hb heq=>by
    have h1:=hall e he hb;rw[heq,getD_both hun]at h1;cases h1
   have h2:=qOp_put hoj (hfree j oj hoj hji hjun hnot) (fun cs b=>hsel i oi cs b hi) (fun cs b=>hsel j oj cs b hoj) hy h1
   have hfree':∀k ok,ops[k]?=some ok->k≠i->(listed.setIfInBounds j true).getD k true=false->
    (∀e∈ok.after,Region.binds md e=true->e.on≠i)->oi.apart ops ok=true:=fun k ok hk hki hun hno=>by
    refine hfree k ok hk hki ?_ hno;by_cases hjk:j=k
    ·subst hjk;exact hjun
    ·rw[getD_set_ne true hjk]at hun;exact hun
   refine qOp_mono (fun a' h3=>ih (listed.setIfInBounds j true) a' (inv.set hj hjn) hfree' (ready_mono hr (rG hji)) h3.1 ?_) h2;rw[Array.setIfInBounds_comm _ _ hji];exact h3.2
theorem Gn{n g:Nat}{Lq:Act->Prop}(hsel:Region.noSelect ops=true)(hs:Region.sinkB md ops n=true)(hc:Region.chainB md ops n=true)(hn:n<ops.size):
 ∀(l:List Oper) (k:Nat) (listed:Array Bool) (a:Act),(∀j,j<l.length->l[j]?=ops[k+j]?)->k+l.length=n->HeadInv md ops n listed->
 Region.lexHead md ops g l.length k listed=true->wpQuiet P ops C Lq l a->
 yj P md ops C n (fun listed' a'=>Region.seqB md ops g n listed'=true/\Lq a') l.length listed a
 | [],k,listed,a,_,hk,_,hB,h=>by
   have:k=n:=by simpa using hk
   subst this;exact⟨by simpa [Region.lexHead]using hB,h⟩
 |o::l,k,listed,a,hl,hk,inv,hB,h=>by
  have h0:ops[k]?=some o:=by simpa using(hl 0 (by simp)).symm
  simp only[List.length_cons,Region.lexHead,Bool.and_eq_true]at hB;obtain⟨⟨hr,hf⟩,hB'⟩:=hB;have hkn:k<n:=by simp only[List.length_cons]at hk;omega
  have hr':k∈Region.ready md ops listed:=by simpa using hr
  have hst:qOp P ops C k (wpQuiet P ops C Lq l) a:=by unfold qOp;simp only[h0];exact h
  obtain⟨v,hy,hK⟩:=yieldsIn_of_qOp h0 hst
  exact KO h0 (Region.noSelect_spec hsel) hs hc hn hkn (fun listed' a' hL=>seqB_ready hL.1) l.length listed a inv (Region.free_spec h0 hf) hr' hy
   (Gn hsel hs hc hn l (k+1) _ _ (fun j hj=>by have:=hl (j+1) (by simp;omega);simpa [Nat.add_assoc,Nat.add_comm 1 j]using this) (by simp only[List.length_cons]at hk;omega) (inv.set hr' hkn) hB' hK)
theorem yl{id:Nat}{Q:Exit->Act->af->Prop}{a:Act}{w:af}{l:List Oper}(n:Nat)(hm:P.follows .mixedOrders=true)(hB:Region.lexTailB .any l.toArray n=true)
 (h:wpQuiet P l.toArray (fun w'=> ∃k,w'=w.drewN k) (fun a'=> ∀w',(∃k,w'=w.drewN k)->wpList P l.toArray Q (l.drop n) a' w') (l.take n) a):(Code.region id l.toArray true).wp P Q a w:=by
 simp only[Region.lexTailB,Bool.and_eq_true,decide_eq_true_eq]at hB;obtain⟨⟨⟨⟨hsel,hn⟩,hs⟩,hc⟩,hlex⟩:=hB;have hn':n<l.length:=by simpa using hn
 have htl:(l.take n).length=n:=by simp;omega
 have hdl:(l.drop n).length=l.toArray.size-n:=by simp
 have inv0:HeadInv .any l.toArray n (Array.replicate l.toArray.size false):=
  ⟨by simp,fun j oj _ hl=>(by rw[getD_replicate_false]at hl;cases hl),fun t _ ht=>getD_in (by simpa using ht) (getD_replicate_false _ _)⟩
 have H:=Gn (md:= .any) (g:=l.toArray.size-n) hsel hs hc hn (l.take n) 0 _ a (fun j hj=>by
  have hj':j<n:=by rw[htl]at hj;exact hj
  simp[hj']) (by simpa using htl) inv0 (by rw[htl];exact hlex) h
 refine wp_region_any hm ?_;have:=tN (C:=fun w'=> ∃k,w'=w.drewN k) (Q':=Q) (g:=l.toArray.size-n) (fun listed a' w' hw' hL=>by have:=wpAny_of_seq (md:= .any) (Q':=Q) (l.drop n) n listed a' w' (fun j=>by simp[List.getElem?_drop]) (by rw[hdl];exact hL.1) (hL.2 w' hw');rwa [hdl]at this) _ _ _ {w with drawn:=w.drawn+1} ⟨1,rfl⟩ H
 rw[htl,show n+(l.toArray.size-n)=l.toArray.size by omega]at this;exact this
end
end Qt
namespace gI
open Go.RowKit Rf
def aea(W H D K I:Nat)(pl tr:ByteArray)(pb tb:Bool)(da:ByteArray):Obj:= .cells #[.int .i64 (W:Int),.int .i64 (H:Int),.int .i64 (D:Int),.int .i64 (K:Int),.int .i64 (I:Int),.string pl,.string tr,.bool pb,.bool tb,.string da] 99999
theorem aeY(n:Nat):madeCells #[.int .i64 0] n=Array.replicate n (Value.int .i64 0):=by
 apply Array.ext
 ·rw[oU];simp
 ·intro i h1 h2;have h:i<n:=by rw[oU]at h1;exact h1
  have e:(madeCells #[.int .i64 0] n)[i]?=some (.int .i64 0):=by simp[madeCells,h];simp[Nat.mod_one]
  rw[xg h1]at e;rw[eu e];simp
end gI
namespace Qt
section
variable {P:Program} {ops:Array Oper} {md:Region.Mode}
end
end Qt
namespace gI
def mY(Q:Exit->Act->af->Prop):Exit->Act->af->Prop
 | .panic _,_,_=>False
 | .normal,a,w=>Q .normal a w
 | .exit i,a,w=>Q (.exit i) a w
 | .goto i,a,w=>Q (.goto i) a w
 | .ret,a,w=>Q .ret a w
 | .outgrown,a,w=>Q .outgrown a w
theorem iU{Q:Exit->Act->af->Prop}(e:Exit)(a:Act)(w:af)(h:mY Q e a w):Q e a w:=by
 cases e with
 |panic _=>exact False.elim h
 |normal=>exact h
 |exit i=>exact h
 |goto i=>exact h
 |ret=>exact h
 |outgrown=>exact h
end gI
namespace Qt
section
variable {P:Program} {ops:Array Oper} {md:Region.Mode} {C:af->Prop}
def TL(md:Region.Mode)(ops:Array Oper)(n:Nat):Bool:=
 (List.range n).all fun i=>decide (i=0)||(List.range (n+1)).any fun j=>decide (i<j)&&Region.waitsFor md ops j i
theorem DT{n:Nat}{listed:Array Bool}(hs:TL md ops n=true)(hc:Region.chainB md ops n=true)(hn:n<ops.size)(inv:HeadInv md ops n listed)(h0:listed.getD 0 false=true):
 ∀(d i:Nat),n-i=d->i<n->listed.getD i true=false->∀t,n<=t->t∉Region.ready md ops listed:=by
 intro d;induction d using Nat.strongRecOn with
 |_ d ih=>
  intro i hd hi hun t ht hr;obtain⟨_,ot,hot,hall⟩:=mem_ready.1 hr;have htlt:t<ops.size:=(Array.getElem?_eq_some_iff.1 hot).1;by_cases htn:t=n
  ·subst htn;have h1:=List.all_eq_true.1 hs i (List.mem_range.2 hi);have hi0:i≠0:=fun e=>by rw[e]at hun;rw[getD_both hun]at h0;cases h0
   rw[sJ,lX]at h1;obtain⟨j,hj,hj2⟩:=List.any_eq_true.1 (h1.resolve_left hi0);simp only[Bool.and_eq_true,decide_eq_true_eq]at hj2;obtain⟨oj,hoj,e,he,hb,hon⟩:=Region.waitsFor_spec hj2.2;have hjle:j<=t:=by have:=List.mem_range.1 hj;omega
   by_cases hjt:j=t
   ·subst hjt;have:oj=ot:=eu (hoj.symm.trans hot);subst this;have h2:=hall e he hb;rw[hon,getD_both hun]at h2;cases h2
   ·cases hl:listed.getD j false with
    |true=>have h2:=inv.closed j oj hoj hl e he hb;rw[hon,getD_both hun]at h2;cases h2
    |false=>
     have hjs:j<listed.size:=by rw[inv.size];omega
     exact ih (t-j) (by omega) j rfl (by omega) (getD_in hjs hl) t (ah _) hr
  ·have h1:=List.all_eq_true.1 hc t (List.mem_range.2 htlt);simp only[Bool.or_eq_true,decide_eq_true_eq]at h1;rcases h1 with h1|h1
   ·omega
   ·obtain⟨o',ho',e,he,hb,hon⟩:=Region.waitsFor_spec h1;have:o'=ot:=eu (ho'.symm.trans hot);subst this;have h2:=hall e he hb;rw[hon,getD_both (inv.tail (t-1) (by omega) (by omega))]at h2;cases h2
theorem Ic{n i:Nat}{oi:Oper}{v:ay}{L:Array Bool->Act->Prop}(hi:ops[i]?=some oi)(hsel:∀(j:Nat) (o:Oper) cs b,ops[j]?=some o->o.op≠ .select cs b)
 (hs:TL md ops n=true) (hc:Region.chainB md ops n=true) (hn:n<ops.size) (hin:i<n)
 (hdone:∀listed a,L listed a->∀j∈Region.ready md ops listed,n<=j):
 ∀(f:Nat) (listed:Array Bool) (a:Act),HeadInv md ops n listed->listed.getD 0 false=true->
  (∀j oj,ops[j]?=some oj->j≠i->listed.getD j true=false->(∀e∈oj.after,Region.binds md e=true->e.on≠i)->oi.apart ops oj=true)->
  i∈Region.ready md ops listed->YieldsIn P ops C oi v a->
  yj P md ops C n L f (listed.setIfInBounds i true) (a.put oi.dst v)->yj P md ops C n L (f+1) listed a:=by
 intro f;induction f with
 |zero=>
  intro listed a inv h0 _ hr hy H;have hun:=(mem_ready.1 hr).1;refine⟨fun h=>(by rw[h]at hr;cases hr),fun j hj=> ?_⟩;have hjn:j<n:=by
   rcases bW j n with h|h
   ·exact h
   ·exact absurd hj (DT hs hc hn inv h0 _ i rfl hin hun j h)
  refine⟨hjn,?_⟩;by_cases hji:j=i
  ·subst hji;exact hy.qOp hi H
  ·have:=hdone _ _ H j (ready_mono hj hji);omega
 |succ f ih=>
  intro listed a inv h0 hfree hr hy H;have hun:=(mem_ready.1 hr).1;refine⟨fun h=>(by rw[h]at hr;cases hr),fun j hj=> ?_⟩;have hjn:j<n:=by
   rcases bW j n with h|h
   ·exact h
   ·exact absurd hj (DT hs hc hn inv h0 _ i rfl hin hun j h)
  refine⟨hjn,?_⟩;by_cases hji:j=i
  ·subst hji;exact hy.qOp hi H
  ·have h1:=(H.2 j (ready_mono hj hji)).2;obtain⟨hjun,oj,hoj,hall⟩:=mem_ready.1 hj;have hnot:∀e∈oj.after,Region.binds md e=true->e.on≠i:=fun e he hb heq=>by
    have h1:=hall e he hb;rw[heq,getD_both hun]at h1;cases h1
   have h2:=qOp_put hoj (hfree j oj hoj hji hjun hnot) (fun cs b=>hsel i oi cs b hi) (fun cs b=>hsel j oj cs b hoj) hy h1
   have hfree':∀k ok,ops[k]?=some ok->k≠i->(listed.setIfInBounds j true).getD k true=false->
    (∀e∈ok.after,Region.binds md e=true->e.on≠i)->oi.apart ops ok=true:=fun k ok hk hki hun hno=>by
    refine hfree k ok hk hki ?_ hno;by_cases hjk:j=k
    ·subst hjk;exact hjun
    ·rw[getD_set_ne true hjk]at hun;exact hun
   refine qOp_mono (fun a' h3=>ih (listed.setIfInBounds j true) a' (inv.set hj hjn) (getD_set_true h0) hfree' (ready_mono hr (rG hji)) h3.1 ?_) h2;rw[Array.setIfInBounds_comm _ _ hji];exact h3.2
theorem DU{n g:Nat}{Lq:Act->Prop}(hsel:Region.noSelect ops=true)(hs:TL md ops n=true)(hc:Region.chainB md ops n=true)(hn:n<ops.size):
 ∀(l:List Oper) (k:Nat) (listed:Array Bool) (a:Act),(∀j,j<l.length->l[j]?=ops[k+j]?)->k+l.length=n->HeadInv md ops n listed->listed.getD 0 false=true->
 Region.lexHead md ops g l.length k listed=true->wpQuiet P ops C Lq l a->
 yj P md ops C n (fun listed' a'=>Region.seqB md ops g n listed'=true/\Lq a') l.length listed a
 | [],k,listed,a,_,hk,_,_,hB,h=>by
   have:k=n:=by simpa using hk
   subst this;exact⟨by simpa [Region.lexHead]using hB,h⟩
 |o::l,k,listed,a,hl,hk,inv,hz,hB,h=>by
  have h0:ops[k]?=some o:=by simpa using(hl 0 (by simp)).symm
  simp only[List.length_cons,Region.lexHead,Bool.and_eq_true]at hB;obtain⟨⟨hr,hf⟩,hB'⟩:=hB;have hkn:k<n:=by simp only[List.length_cons]at hk;omega
  have hr':k∈Region.ready md ops listed:=by simpa using hr
  have hst:qOp P ops C k (wpQuiet P ops C Lq l) a:=by unfold qOp;simp only[h0];exact h
  obtain⟨v,hy,hK⟩:=yieldsIn_of_qOp h0 hst
  exact Ic h0 (Region.noSelect_spec hsel) hs hc hn hkn (fun listed' a' hL=>seqB_ready hL.1) l.length listed a inv hz (Region.free_spec h0 hf) hr' hy
   (DU hsel hs hc hn l (k+1) _ _ (fun j hj=>by have:=hl (j+1) (by simp;omega);simpa [Nat.add_assoc,Nat.add_comm 1 j]using this) (by simp only[List.length_cons]at hk;omega) (inv.set hr' hkn) (getD_set_true hz) hB' hK)
def OG(md:Region.Mode)(ops:Array Oper)(n:Nat):Bool:=
 Region.noSelect ops&&decide (n<ops.size)&&decide (0<n)&&TL md ops n&&Region.chainB md ops n&&(Region.ready md ops (Array.replicate ops.size false)).contains 0&&Region.free md ops (Array.replicate ops.size false) 0&&Region.lexHead md ops (ops.size-n) (n-1) 1 ((Array.replicate ops.size false).setIfInBounds 0 true)
theorem zy{id:Nat}{Q:Exit->Act->af->Prop}{a:Act}{w:af}{o:Oper}{l:List Oper}{v:ay}(n:Nat)(hm:P.follows .mixedOrders=true)(hB:OG .any (o::l).toArray n=true)
 (hQ:∀c a w,Q (.panic c) (a.put o.dst v) w->Q (.panic c) a w) (hy:Yields P (o::l).toArray o v a)
 (h:wpQuiet P (o::l).toArray (fun w'=> ∃k,w'=w.drewN k) (fun a'=> ∀w',(∃k,w'=w.drewN k)->wpList P (o::l).toArray Q ((o::l).drop n) a' w') (((o::l).take n).drop 1) (a.put o.dst v)):(Code.region id (o::l).toArray true).wp P Q a w:=by
 simp only[OG,Bool.and_eq_true,decide_eq_true_eq]at hB;obtain⟨⟨⟨⟨⟨⟨⟨hsel,hn⟩,hn0⟩,hs⟩,hc⟩,hr0⟩,hf0⟩,hlex⟩:=hB;have hn':n<(o::l).length:=by simpa using hn
 have htl:(((o::l).take n).drop 1).length=n-1:=by rw[jm,eH];omega
 have hdl:((o::l).drop n).length=(o::l).toArray.size-n:=by simp
 have inv0:HeadInv .any (o::l).toArray n (Array.replicate (o::l).toArray.size false):=
  ⟨by simp,fun j oj _ hl=>(by rw[getD_replicate_false]at hl;cases hl),fun t _ ht=>getD_in (by simpa using ht) (getD_replicate_false _ _)⟩
 have aee:0∈Region.ready .any (o::l).toArray (Array.replicate (o::l).toArray.size false):=by simpa using hr0
 have H:=DU (md:= .any) (g:=(o::l).toArray.size-n) hsel hs hc hn (((o::l).take n).drop 1) 1 _ (a.put o.dst v) (fun j hj=>by rw[gJ,dh (by omega)];simp) (by rw[htl];omega) (inv0.set aee hn0) (by simp) (by rw[htl];exact hlex) h
 refine wp_region_any hm ?_;have h1:=tN (C:=fun w'=> ∃k,w'=w.drewN k) (Q':=Q) (g:=(o::l).toArray.size-n) (fun listed a' w' hw' hL=>by have:=wpAny_of_seq (md:= .any) (Q':=Q) ((o::l).drop n) n listed a' w' (fun j=>by simp[List.getElem?_drop]) (by rw[hdl];exact hL.1) (hL.2 w' hw');rwa [hdl]at this) _ _ _ {w with drawn:=w.drawn+1} ⟨1,rfl⟩ H
 rw[htl]at h1;have h2:=wpAny_take (i:=0) (oi:=o) (v:=v) (by simp) hsel hf0 hr0 hQ hy h1;rw[show n-1+((o::l).toArray.size-n)+1=(o::l).toArray.size by omega]at h2;exact h2
end
end Qt
namespace Su
open Ad Cr
theorem aeK(a b c:Nat)(e:a^^^b=a^^^c):b=c:=by have:=jo (a^^^ ·) e;rwa [<-Nat.xor_assoc,<-Nat.xor_assoc,Nat.xor_self,Nat.zero_xor,Nat.zero_xor]at this
end Su
end Go.Proofs.YtephkcdbnogdhabGreatDoor
