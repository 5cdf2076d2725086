import Derived.Test.YtephkcdbnogdhabGreatDoorM24
set_option linter.unusedVariables false
set_option maxHeartbeats 40000000
set_option maxRecDepth 10000
namespace Go.Proofs.YtephkcdbnogdhabGreatDoor
open Go renaming World->af
open Go.RowKit renaming Below->aA
namespace Pr
open Go.RowKit Rf Cr
open gI (cut fK bz gu gQ rC lets Bv dw inW Dt)
theorem abD(K D:Nat)(h:rW K D=true):K<7/\D<17:=by
 have a:0<aT K->K=0\/K=2\/K=3\/K=4\/K=6:=by
  intro hp;unfold aT at hp;repeat' split at hp
  all_goals omega
 unfold rW at h;by_cases h1:D=1\/D=2\/D=4
 ·rw[aG h1]at h;simp at h;omega
 ·rw[ax h1]at h;by_cases h2:D=8
  ·rw[aG h2]at h;have:=a (lW h);omega
  ·rw[ax h2]at h;by_cases b:D=16
   ·rw[aG b]at h;simp at h;have:=a h.1;omega
   ·rw[ax b]at h;cases h
theorem VG(K D:Nat):(K<7/\D<17/\inW (PZ K) (Dt D))↔rW K D=true:=by
 constructor
 ·rintro⟨h1,h2,a⟩;rw[<-MI K h1 D h2];exact(MH _ _).1 a
 ·intro h;obtain⟨h1,h2⟩:=abD K D h;refine⟨h1,h2,(MH _ _).2 ?_⟩;rw[MI K h1 D h2];exact h
theorem CX(d:ByteArray)(hd:d.size=13):headD d↔CB d 0:=by
 unfold headD CB qC wJ wK;have hm:Match d (0+10) Cm↔aF d 10=0/\aF d 11=0:=by
  have l:Cm.size=2:=rfl;have e:aF Cm 0=0:=by decide
  have g:aF Cm 1=0:=by decide
  unfold Match;rw[l];constructor
  ·rintro⟨_,h⟩;have h0:=h 0 (by omega);have h1:=h 1 (by omega);rw[e]at h0;rw[g]at h1;exact⟨h0,h1⟩
  ·rintro⟨h0,h1⟩;refine⟨by omega,fun i hi=> ?_⟩;rcases(by omega:i=0\/i=1)with rfl|rfl
   ·rw[e];exact h0
   ·rw[g];exact h1
 have j:=VG (aF d 9) (aF d 8);have k:∀t,t+4<=13->(pG d t↔bz d t<=2147483647):=fun t v=>by unfold pG;exact⟨fun h=>h.2,fun h=>⟨by omega,h⟩⟩
 rw[hm,k 0 (by omega),k (0+4) (by omega)];simp only[Nat.zero_add];constructor
 ·rintro⟨h1,h2,b,a,m,n,w⟩;exact⟨⟨a.2.2.1,a.1⟩,⟨a.2.2.2,a.2.1⟩,⟨by omega,j.1 ⟨h1,h2,b⟩⟩,⟨m,n⟩,by omega,by omega⟩
 ·rintro⟨⟨o,p⟩,⟨q,r⟩,⟨_,c⟩,⟨s,u⟩,_,f⟩;obtain⟨h1,h2,b⟩:=j.2 c;exact⟨h1,h2,b,⟨p,r,o,q⟩,s,u,by omega⟩
end Pr
namespace Pr
open Go.RowKit Rf Cr
open gI (cut fK h_ bz gu bQ gQ fO rC lets Bv dw inW Dt)
theorem uJ(l:List UInt8)(i:Nat):aF ⟨l.toArray⟩ i=(l.getD i 0).toNat:=by simp[aF]
theorem Gj(s:ByteArray)(t N:Nat)(j:N<4294967296):Match s t ⟨(bQ N).toArray⟩↔t+4<=s.size/\bz s t=N:=by
 have a:aF ⟨(bQ N).toArray⟩ 0=N/16777216%256:=by rw[uJ];simp[bQ]
 have b:aF ⟨(bQ N).toArray⟩ 1=N/65536%256:=by rw[uJ];simp[bQ]
 have c:aF ⟨(bQ N).toArray⟩ 2=N/256%256:=by rw[uJ];simp[bQ]
 have d:aF ⟨(bQ N).toArray⟩ 3=N%256:=by rw[uJ];simp[bQ]
 have e:(⟨(bQ N).toArray⟩:ByteArray).size=4:=rfl;have k:=bY s t;have l:=bY s (t+1);have m:=bY s (t+2);have n:=bY s (t+3);unfold Match bz;rw[e];constructor
 ·rintro⟨h1,h⟩;have h0:=h 0 (by omega);have f:=h 1 (by omega);have g:=h 2 (by omega);have e3:=h 3 (by omega);rw[a,cO]at h0;rw[b]at f;rw[c]at g;rw[d]at e3;exact⟨h1,by omega⟩
 ·rintro⟨h1,h⟩;refine⟨h1,fun i hi=> ?_⟩;rcases(by omega:i=0\/i=1\/i=2\/i=3)with rfl|rfl|rfl|rfl
  ·rw[a,cO];omega
  ·rw[b];omega
  ·rw[c];omega
  ·rw[d];omega
theorem Zm{x y:ByteArray}(h1:x.size=y.size)(h2:∀i,i<x.size->aF x i=aF y i):x=y:=by
 apply gK;apply Array.ext
 ·exact h1
 ·intro i hi a;have e:=h2 i hi;rw[mQ x i hi,mQ y i a]at e;exact UInt8.toNat_inj.1 e
theorem VH(s:ByteArray)(t:Nat)(x:ByteArray):Match s t x↔t+x.size<=s.size/\fG s t x.size=x:=by
 unfold Match;constructor
 ·rintro⟨h1,h2⟩;refine⟨h1,Zm (jW s t _ h1) (fun i hi=> ?_)⟩;rw[jW s t _ h1]at hi;rw[lT s t _ i hi (by omega)];exact h2 i hi
 ·rintro⟨h1,h2⟩;refine⟨h1,fun i hi=> ?_⟩;rw[<-lT s t x.size i hi (by omega),h2]
theorem Ah(x y:ByteArray)(i:Nat):aF (x++y) i=if i<x.size then aF x i else aF y (i-x.size):=by
 have a:x.size=x.data.toList.length:=by simp
 unfold aF;rw[ByteArray.data_append,Array.toList_append,ag];by_cases h:i<x.size
 ·rw[aG h,dI (by omega),<-ag]
 ·rw[ax h,fC (by omega),<-ag,<-a]
theorem VI(s:ByteArray)(t:Nat)(x y:ByteArray):Match s t (x++y)↔Match s t x/\Match s (t+x.size) y:=by
 unfold Match;have a:(x++y).size=x.size+y.size:=by simp
 rw[a];constructor
 ·rintro⟨h1,h2⟩;refine⟨⟨by omega,fun i hi=> ?_⟩,by omega,fun i hi=> ?_⟩
  ·rw[h2 i (by omega),Ah,aG hi]
  ·rw[dK,h2 (x.size+i) (by omega),Ah,ax (by omega),Nat.add_sub_cancel_left]
 ·rintro⟨⟨h1,h2⟩,c,b⟩;refine⟨by omega,fun i hi=> ?_⟩;rw[Ah];by_cases h:i<x.size
  ·rw[aG h];exact h2 i h
  ·rw[ax h,<-b (i-x.size) (by omega),show t+x.size+(i-x.size)=t+i by omega]
theorem abE(s:ByteArray)(p:Nat):jw s (p+8) (bz s p) (cut s (p+4) 4)↔p+8+bz s p+4<=s.size/\Bv s p:=by unfold jw Bv;rw[Gj _ _ _ (fO _),Nat.add_comm (bz s p) 4,h_ s (p+4) 4 (bz s p)]
theorem Zn(s:ByteArray)(p:Nat):rC s p↔(pG s p/\lets s p)/\jw s (p+8) (bz s p) (cut s (p+4) 4):=by
 rw[abE];unfold rC pG;constructor
 ·rintro⟨h1,h2,c,a,b⟩;exact⟨⟨⟨by omega,h2⟩,a⟩,by omega,b⟩
 ·rintro⟨⟨⟨h1,h2⟩,a⟩,c,b⟩;exact⟨by omega,h2,by omega,a,b⟩
theorem Gl(s:ByteArray)(p i:Nat)(n:ByteArray)(a:n.size=4)(h:p+4<=s.size)(b:fG s p 4=n)(hi:i<=4):preB (fG s p i) n=true:=by
 have c:=jW s p i (by omega);unfold preB;rw[c,gB,mD];refine⟨aZ (by rw[a];exact hi),?_⟩;rw[<-b,dP,dP,iE];have d:(fG s p 4).data.toList=cut s p 4:=by unfold fG;simp
 have e:(fG s p i).data.toList=cut s p i:=by unfold fG;simp
 rw[vg,oL,d,e,uZ,Nat.sub_zero];unfold cut;rw[List.take_take,sH hi]
theorem Ef(s:ByteArray)(p:Nat)(n:ByteArray)(a:n.size=4)(h:p+4<=s.size):preB (fG s p 4) n=true↔fG s p 4=n:=
 ⟨fun e=>SK (jW s p 4 h) a e,fun e=>Gl s p 4 n a h e (by omega)⟩
theorem Bz(s:ByteArray)(p i:Nat)(h:p+4<=s.size)(hi:1<=i):aF (fG s p i) 0=aF s p:=lT s p i 0 (by omega) (by omega)
theorem VJ(s:ByteArray)(p:Nat):((fG s p 4).toList==uI.toList)=decide (fG s p 4=uI):=by
 by_cases h:fG s p 4=uI
 ·rw[h,aZ rfl];exact beq_self_eq_true _
 ·rw[sF h,aS h]
theorem yT(s:ByteArray)(p:Nat):lC nN s p↔p+8<=s.size/\pG s p/\lets s p/\(JO (aF s (p+4))=true\/fG s (p+4) 4=rD\/fG s (p+4) 4=fD):=by
 unfold lC uT lets;constructor
 ·rintro⟨h1,h2,c,d⟩;refine⟨h2,h1,c,?_⟩;have h:=d 4 (by omega) (by omega);unfold nN at h;rw[Bz s (p+4) 4 h2 (by omega)]at h;simp only[List.any_cons,List.any_nil,Bool.or_false,Bool.or_eq_true]at h;rw[Ef s (p+4) _ rfl h2,Ef s (p+4) _ rfl h2]at h;exact h
 ·rintro⟨h2,h1,c,d⟩;refine⟨h1,h2,c,fun i a b=> ?_⟩;unfold nN;rw[Bz s (p+4) i h2 a];simp only[List.any_cons,List.any_nil,Bool.or_false,Bool.or_eq_true];exact d.imp id (Or.imp (fun e=>Gl s _ i _ rfl h2 e b) (fun e=>Gl s _ i _ rfl h2 e b))
theorem yh(s:ByteArray)(p:Nat)(h:p+4<=s.size):j_ (fG s p 4)=true↔(JO (aF s p)=true/\fG s p 4≠uI)\/fG s p 4=nM:=by unfold j_;rw[Bz s p 4 h (by omega),VJ];simp only[List.any_cons,List.any_nil,Bool.or_false,Bool.or_eq_true,Bool.and_eq_true,Bool.not_eq_true',decide_eq_false_iff_not];rw[Ef s p _ rfl h]
theorem Ji(s:ByteArray)(p i:Nat)(h:p+4<=s.size)(a:1<=i)(hb:i<=4)(b:j_ (fG s p 4)=true):j_ (fG s p i)=true:=by
 rcases(yh s p h).1 b with⟨h1,h2⟩|h1
 ·unfold j_;rw[Bz s p i h a,h1];have:(fG s p i)≠uI:=by
   rcases(by omega:i=4\/i<4)with rfl|hi
   ·exact h2
   ·intro e;have c:=jW s p i (by omega);rw[e]at c;have:uI.size=4:=rfl;omega
  rw[sF this];rfl
 ·unfold j_;have:preB (fG s p i) nM=true:=Gl s p i _ rfl h h1 hb;simp[this]
theorem Og(s:ByteArray)(p:Nat):lC j_ s p↔p+8<=s.size/\pG s p/\lets s p/\((JO (aF s (p+4))=true/\fG s (p+4) 4≠uI)\/fG s (p+4) 4=nM):=by
 unfold lC uT lets;constructor
 ·rintro⟨h1,h2,c,d⟩;exact⟨h2,h1,c,(yh s (p+4) h2).1 (d 4 (by omega) (by omega))⟩
 ·rintro⟨h2,h1,c,d⟩;exact⟨h1,h2,c,fun i a b=>Ji s (p+4) i h2 a b ((yh s (p+4) h2).2 d)⟩
theorem Ai(s:ByteArray)(p:Nat):lC je s p↔p+8<=s.size/\pG s p/\lets s p/\(((JO (aF s (p+4))=true/\fG s (p+4) 4≠uI)\/fG s (p+4) 4=nM)\/fG s (p+4) 4=fD):=by
 unfold lC uT lets je;constructor
 ·rintro⟨h1,h2,c,d⟩;have h:=d 4 (by omega) (by omega);simp only[List.any_cons,List.any_nil,Bool.or_false,Bool.or_eq_true]at h;rw[yh s (p+4) h2,Ef s (p+4) _ rfl h2]at h;exact⟨h2,h1,c,h⟩
 ·rintro⟨h2,h1,c,d⟩;refine⟨h1,h2,c,fun i a b=> ?_⟩;simp only[List.any_cons,List.any_nil,Bool.or_false,Bool.or_eq_true];exact d.imp (fun e=>Ji s (p+4) i h2 a b ((yh s (p+4) h2).2 e)) (fun e=>Gl s _ i _ rfl h2 e b)
def H0D(s:ByteArray):Prop:=Match s 0 pJ/\rC s 8/\fG s (8+4) 4=qi/\bz s 8=13/\headD (fG s (8+8) 13)
theorem abG(s:ByteArray):H0 s↔H0D s:=by
 unfold H0 H0D abf;rw[VI,Gj _ _ _ (by omega),VH s (8+_) qi];have k:(⟨(bQ 13).toArray⟩:ByteArray).size=4:=rfl;have f:qi.size=4:=rfl;rw[k,f];have j:=NQ (s:=s) (p:=16) (n:=13) (m:=13) (l:=qi.data.toList) (by omega);rw[show 16+13=29 from rfl,show 13-13=0 from rfl]at j;rw[j,Zn];constructor
 ·rintro⟨h1,⟨⟨h2,g⟩,d,b⟩,e,c⟩;have h:qi.data.toList=cut s 12 4:=by rw[<-xN s 12 4];exact jo (fun x=>x.data.toList) b.symm
  rw[h]at c;have a:29<=s.size:=by have:=c.1;omega
  refine⟨h1,⟨⟨⟨h2,by omega⟩,fun i hi=> ?_⟩,by rw[g];exact c⟩,b,g,(CX _ (jW s 16 13 a)).2 e⟩;rw[<-lT s (8+4) 4 i hi (by omega),b];rcases(by omega:i=0\/i=1\/i=2\/i=3)with rfl|rfl|rfl|rfl<;>decide
 ·rintro⟨h1,⟨⟨h2,g⟩,d⟩,b,e,c⟩;rw[e]at d;have h:qi.data.toList=cut s 12 4:=by rw[<-xN s 12 4];exact jo (fun x=>x.data.toList) b.symm
  have a:29<=s.size:=by have:=d.1;omega
  refine⟨h1,⟨⟨h2.1,e⟩,by omega,b⟩,(CX _ (jW s 16 13 a)).1 c,by rw[h];exact d⟩
end Pr
namespace Pr
open Go.RowKit Rf Cr
open gI (cut fK h_ bz gu bQ gQ fO rC lets Bv dw inW Dt dL Oh zB)
theorem Gm{s:ByteArray}{p:Nat}(h:rC s p)(h2:97<=aF s (p+4)):JO (aF s (p+4))=true:=by have:=h.2.2.2.1 0 (by omega);rw[cO]at this;unfold dw at this;unfold JO;simp at this|-;omega
theorem Zq{s:ByteArray}{p:Nat}(hp:p+8<=s.size){n:ByteArray}(h:fG s (p+4) 4=n):aF s (p+4)=aF n 0:=by rw[<-h,Bz s (p+4) 4 (by omega) (by omega)]
def Kept(x y:PS):Prop:=y.pl=x.pl/\y.tr=x.tr/\y.tb=x.tb
def ac5(s:ByteArray)(p:Nat):Pt:=⟨p+8,fG s (p+4) 4,bz s p,cut s (p+4) 4⟩
theorem pR{s:ByteArray}{p:Nat}(h:rC s p):p+8<=s.size/\pG s p/\lets s p/\jw s (p+8) (bz s p) (cut s (p+4) 4):=by have h2:=(Zn s p).1 h;have:=h.1;exact⟨by omega,h2.1.1,h2.1.2,h2.2⟩
theorem abK{s:ByteArray}{K D:Nat}{x y:PS}(h:Ia s K D x y):x.jQ=2->lC j_ s x.pos/\Rest s (ac5 s x.pos)/\Kept x y/\y.da=x.da:=by
 induction h with
 |done h1 h2 g f i=>intro _;obtain⟨a,b,c,d⟩:=pR h1;refine⟨(Og s _).2 ⟨a,b,c,.inr h2⟩,?_,⟨rfl,rfl,rfl⟩,rfl⟩;unfold ac5;rw[h2,f];rw[f]at d;exact .last d i
 |VF h1 h2 g f i j=>intro e;omega
 |VN h1 h2 g f j=>intro e;have:=g.1;omega
 |VO h1 h2 g f i k j=>intro e;omega
 |other h1 h2 g f i k p j=>intro e;obtain⟨a,b,c,d⟩:=pR h1;obtain⟨l,m,n,o⟩:=j (by show(if _ then 2 else _)=2;rw[ax (by omega)];exact e);refine⟨(Og s _).2 ⟨a,b,c,.inl ⟨Gm h1 k,i⟩⟩,?_,n,o⟩;exact .more h2 d l m
theorem abL{s:ByteArray}{K D:Nat}{x y:PS}(h:Ia s K D x y):x.jQ=1->∀(p left:Nat) (l:List UInt8),x.pos=p+left+4->jw s p left l->∃P,Ends s p left l P/\Rest s P/\Kept x y/\
 ∀n,x.da.data.toList=n++cut s p left->y.da.data.toList=n++jP s p left l:=by
 induction h with
 | @done x h1 h2 f g i=>
   intro j p left l hp hF;obtain⟨a,b,c,d⟩:=pR h1;rw[hp]at a b c d h2 g i;have o:fG s (p+left+4+4) 4≠fD:=by rw[h2];decide
   refine⟨_,.stop hF ((Ai s _).2 ⟨a,b,c,.inl (.inr h2)⟩) o,?_,⟨rfl,rfl,rfl⟩,fun n e=> ?_⟩
   ·rw[h2,g];rw[g]at d;exact .last d i
   ·rw[e,nZ (fun t=>o ((vH s p left l).1 t).2.2)]
 | @VF x y h1 h2 f g i r=>
   intro j p left l hp hF;obtain⟨a,b,c,d⟩:=pR h1;rw[hp]at a b c d h2;have u:=(Ai s _).2 ⟨a,b,c,.inr h2⟩;obtain⟨P,w,z,A,B⟩:=r rfl (p+left+4+8) (bz s (p+left+4)) (cut s (p+left+4+4) 4) (by show VM s x.pos=_;unfold VM;rw[hp]) d;refine⟨P,.more hF u h2 w,z,A,fun n e=> ?_⟩;have:=B (x.da.data.toList) (by show(x.da++fG s (x.pos+8) (bz s x.pos)).data.toList=_;rw[ByteArray.data_append,Array.toList_append,xN,hp])
   rw[this,e,tu ((vH s p left l).2 ⟨hF,u,h2⟩),bI]
 |VN h1 h2 f g r=>intro e;have:=f.1;omega
 |VO h1 h2 f g i v r=>intro e;omega
 | @other x y h1 h2 f g i v C r=>
   intro j p left l hp hF;obtain⟨a,b,c,d⟩:=pR h1;have q:=Gm h1 v;obtain⟨E,F,G,H⟩:=abK C (by show(if _ then 2 else _)=2;rw[aG j]);have k:lC j_ s (VM s x.pos):=E;have m:Rest s (ac5 s (VM s x.pos)):=F;unfold VM at k m;rw[hp]at a b c d h2 f i q k m;refine⟨_,.stop hF ((Ai s _).2 ⟨a,b,c,.inl (.inl ⟨q,i⟩)⟩) f,?_,G,fun n e=> ?_⟩
   ·exact .more h2 d k m
   ·rw[H];show x.da.data.toList=_;rw[e,nZ (fun t=>f ((vH s p left l).1 t).2.2)]
structure Lk(K:Nat)(x:PS)(st:Cs):Prop where
 jQ:x.jQ=0
 da:x.da=ByteArray.empty
 pb:x.pb=true↔st.E.length≠0
 pl:x.pb=true->x.pl.size=3*st.E.length
 tb:x.tb=st.iW
 tr:x.tb=false->x.tr.size=0
 says:Ri K st x.pl x.tr x.tb
theorem ac6(D:Nat)(h:D<=8):pw D<=256:=by
 have:=Ih D 8 h;have e:pw 8=256:=by decide
 omega
theorem Lk.VN{s:ByteArray}{K D:Nat}{x:PS}{st:Cs}(h:Lk K x st)(k:rC s x.pos)(l:K=3->D<=8):plD K D x (bz s x.pos)↔Fh s (x.pos+8) (bz s x.pos) D K st.E.length st.iW:=by
 have q:=k.2.2.1;generalize bz s x.pos=n at*;unfold plD Fh Fg;rw[h.tb];have m:x.pb=false↔st.E.length=0:=by
  have:=h.pb;cases p:x.pb with
  |false=>rw[p]at this;simp at this;simp[this]
  |true=>rw[p]at this;simp at this;simp[this]
 rw[m];by_cases f:K=3
 ·have:=ac6 D (l f);rw[aG f];constructor
  ·rintro⟨r,a,b,c,d,g,o,i,j⟩;have:=j f;exact⟨⟨⟨c,d⟩,a,b,by omega,by omega,g⟩,by omega⟩
  ·rintro⟨⟨⟨c,d⟩,a,b,g,o,i⟩,j⟩;exact⟨h.jQ,a,b,c,d,i,by omega,by omega,fun _=>by omega⟩
 ·rw[ax f];constructor
  ·rintro⟨r,a,b,c,d,g,o,i,j⟩;exact⟨⟨⟨c,d⟩,a,b,by omega,by omega,g⟩,by omega⟩
  ·rintro⟨⟨⟨c,d⟩,a,b,g,o,i⟩,j⟩;exact⟨h.jQ,a,b,c,d,i,by omega,by omega,fun e=>absurd e f⟩
theorem Lk.adN{s:ByteArray}{K D:Nat}{x:PS}{st:Cs}(h:Lk K x st)(b:rC s x.pos)(hp:plD K D x (bz s x.pos)):
 Lk K ⟨VM s x.pos,x.jQ,fG s (x.pos+8) (bz s x.pos),x.tr,true,x.tb,x.da⟩ (Yg s (x.pos+8) (bz s x.pos) st):=by
 have d:=b.2.2.1;obtain⟨i,k,c,l,m,o,p,q,r⟩:=hp;generalize bz s x.pos=n at*;have a:=jW s (x.pos+8) n (by omega);have e:=h.tr c;refine⟨h.jQ,h.da,?_,fun _=> ?_,h.tb,h.tr,?_,h.says.Zo,?_⟩
 ·show true=true↔(wP s (x.pos+8) (n/3)).length≠0;rw[vI];simp;omega
 ·show(fG s (x.pos+8) n).size=3*(wP s (x.pos+8) (n/3)).length;rw[vI,a];omega
 ·intro f;show(fG s (x.pos+8) n).size=3*(wP s (x.pos+8) (n/3)).length/\∀j,j<(wP s (x.pos+8) (n/3)).length->(wP s (x.pos+8) (n/3)).getD j (0,0,0,0)=_;rw[vI,a];refine⟨by omega,fun j g=> ?_⟩;rw[abH _ _ _ _ g,ax (by show¬j<x.tr.size;omega)];unfold kY;rw[lT s (x.pos+8) n (3*j) (by omega) (by omega),lT s (x.pos+8) n (3*j+1) (by omega) (by omega),lT s (x.pos+8) n (3*j+2) (by omega) (by omega)];rfl
 ·intro f hb;have:x.tb=true:=hb;rw[c]at this;cases this
theorem Lk.VO{s:ByteArray}{K D:Nat}{x:PS}{st:Cs}(h:Lk K x st)(e:rC s x.pos)(hK:K=0\/K=2\/K=3\/K=4\/K=6):(x.jQ=0/\x.tb=false/\trD K D x (fG s (x.pos+8) (bz s x.pos)))↔qM s (x.pos+8) (bz s x.pos) D K st:=by
 have o:=e.2.2.1;generalize bz s x.pos=n at*;have c:=jW s (x.pos+8) n (by omega);unfold qM trD;rw[h.tb,c];have hb:∀k,k<n->aF (fG s (x.pos+8) n) k=aF s (x.pos+8+k):=fun k f=>lT s (x.pos+8) n k f (by omega);have l:K=3->((x.pb=true/\1<=n/\n<=x.pl.size/3)↔G_ s (x.pos+8) n st.E.length):=fun f=>by
  unfold G_;constructor
  ·rintro⟨g,m,p⟩;have:=h.pl g;exact⟨m,by omega,by omega⟩
  ·rintro⟨g,m,p⟩;have hp:=h.pb.2 (by omega);have:=h.pl hp;exact⟨hp,g,by omega⟩
 have h0:(K=0\/K=2)->(Oh (fG s (x.pos+8) n) D K↔JY s (x.pos+8) n D K):=fun f=>by
  unfold Oh JY z_;rw[c,VL K hK];constructor
  ·rintro⟨c1,c2⟩;refine⟨c1,fun j i=>⟨by omega,?_⟩⟩;have:=c2 j i;rw[hb _ (by omega),hb _ (by omega)]at this;exact this
  ·rintro⟨c1,c2⟩;refine⟨c1,fun j i=> ?_⟩;rw[hb _ (by omega),hb _ (by omega)];exact(c2 j i).2
 constructor
 ·rintro⟨_,d,⟨a,b⟩|⟨a,b⟩⟩
  ·exact⟨d,.inr ⟨a,(l a).1 b⟩⟩
  ·exact⟨d,.inl ⟨a,(h0 a).1 b⟩⟩
 ·rintro⟨d,⟨a,b⟩|⟨a,b⟩⟩
  ·exact⟨h.jQ,d,.inr ⟨a,(h0 a).2 b⟩⟩
  ·exact⟨h.jQ,d,.inl ⟨a,(l a).2 b⟩⟩
theorem Lk.ac7{s:ByteArray}{K D:Nat}{x:PS}{st:Cs}(h:Lk K x st)(f:rC s x.pos)(hK:K=0\/K=2\/K=3\/K=4\/K=6)(hp:qM s (x.pos+8) (bz s x.pos) D K st):
 Lk K ⟨VM s x.pos,x.jQ,x.pl,fG s (x.pos+8) (bz s x.pos),x.pb,true,x.da⟩ (JZ s (x.pos+8) (bz s x.pos) K st):=by
 have m:=f.2.2.1;obtain⟨o,l⟩:=hp;have p:=h.tr (by rw[h.tb];exact o);generalize bz s x.pos=n at*;have g:=jW s (x.pos+8) n (by omega);have hb:∀k,k<n->aF (fG s (x.pos+8) n) k=aF s (x.pos+8+k):=fun k c=>lT s (x.pos+8) n k c (by omega);unfold JZ;by_cases c:K=3
 ·rw[aG c];have i:(uU s (x.pos+8) st.E n).length=st.E.length:=vJ _ _ _ _;have q:G_ s (x.pos+8) n st.E.length:=by
   rcases l with⟨b,_⟩|⟨_,b⟩
   ·omega
   ·exact b
  obtain⟨s1,s2⟩:=h.says.lU c;refine⟨h.jQ,h.da,?_,fun e=> ?_,rfl,(fun e=>by cases e),?_,(fun e=>by cases e),(fun e=>by omega)⟩
  ·show x.pb=true↔(uU s (x.pos+8) st.E n).length≠0;rw[i];exact h.pb
  ·show x.pl.size=3*(uU s (x.pos+8) st.E n).length;rw[i];exact h.pl e
  ·intro _;show x.pl.size=3*(uU s (x.pos+8) st.E n).length/\∀j,j<(uU s (x.pos+8) st.E n).length->(uU s (x.pos+8) st.E n).getD j (0,0,0,0)=_;rw[i];refine⟨s1,fun j d=> ?_⟩;rw[abJ _ _ _ _ _ d,s2 j d];show _=(_,_,_,if j<(fG s (x.pos+8) n).size then dL (aF (fG s (x.pos+8) n) j) 8 else 65535);rw[g];by_cases a:j<n
   ·rw[aG a,aG a,hb j a]
   ·rw[ax a,ax a,ax (by omega)]
 ·rw[ax c];rcases l with⟨t,r⟩|⟨b,_⟩
  ·refine⟨h.jQ,h.da,h.pb,h.pl,rfl,(fun e=>by cases e),(fun e=>absurd e c),(fun e=>by cases e),fun _ _=>⟨Ec _ _ _,fun j d=> ?_⟩⟩;have u:=r.1;show(Lr s (x.pos+8) (aT K)).getD j 0=_;rw[ac4 _ _ _ _ d];show sh s (x.pos+8+2*j)=256*aF (fG s (x.pos+8) n) (2*j)+aF (fG s (x.pos+8) n) (2*j+1);rw[hb _ (by omega),hb _ (by omega)];rfl
  ·exact absurd b c
theorem Zr{s:ByteArray}{K D:Nat}(hK:K=0\/K=2\/K=3\/K=4\/K=6)(v:K=3->D<=8){x y:PS}(h:Ia s K D x y):∀st:Cs,Lk K x st->∃P1 qR P2,oJ s D K x.pos st P1 qR/\Ends s P1.p P1.left P1.l P2/\Rest s P2/\Ri K qR y.pl y.tr y.tb/\y.da=qp s P1.p P1.left P1.l:=by
 induction h with
 | @done x h1 h2 g i j=>intro st f;have:=f.jQ;omega
 | @VF x y h1 h2 g i j r=>
   intro st f;obtain⟨a,b,c,d⟩:=pR h1;obtain⟨P,k,m,n,o⟩:=abL j rfl (x.pos+8) (bz s x.pos) (cut s (x.pos+4) 4) rfl d;refine⟨_,st,P,.here ((yT s _).2 ⟨a,b,c,.inr (.inr h2)⟩) h2 (fun e=> ?_),k,m,?_,?_⟩
   ·exact f.pb.1 (i e.1) e.2
   ·obtain⟨C,E,F⟩:=n;rw[C,E,F];exact f.says
   ·have:=o [] (by
     show(x.da++fG s (x.pos+8) (bz s x.pos)).data.toList=_;rw[ByteArray.data_append,Array.toList_append,xN,f.da];rfl)
    apply gK;apply Array.toList_inj.1;rw[this];simp[qp]
 | @VN x y h1 h2 g i r=>
   intro st f;obtain⟨a,b,c,d⟩:=pR h1;have q:fG s (x.pos+4) 4≠fD:=by rw[h2];decide
   obtain⟨P1,qR,P2,k,m,n,o,t⟩:=r _ (f.adN h1 g);refine⟨P1,qR,P2,.more ((yT s _).2 ⟨a,b,c,.inr (.inl h2)⟩) q ⟨fun _=>(f.VN h1 v).1 g,fun e=> ?_⟩ d ?_,m,n,o,t⟩
   ·rw[h2]at e;exact absurd e (by decide)
   ·unfold YN;rw[aG h2];exact k
 | @VO x y h1 h2 g i j A r=>
   intro st f;obtain⟨a,b,c,d⟩:=pR h1;have q:fG s (x.pos+4) 4≠fD:=by rw[h2];decide
   have u:fG s (x.pos+4) 4≠rD:=by rw[h2];decide
   have B:=(f.VO h1 hK).1 ⟨g,i,j⟩;obtain⟨P1,qR,P2,k,m,n,o,t⟩:=r _ (f.ac7 h1 hK B);have w:JO (aF s (x.pos+4))=true:=by rw[Zq a h2];decide
   refine⟨P1,qR,P2,.more ((yT s _).2 ⟨a,b,c,.inl w⟩) q ⟨fun e=>absurd e u,fun _=>B⟩ d ?_,m,n,o,t⟩;unfold YN;rw[ax u,aG (show fG s (x.pos+4) 4=DI from h2)];exact k
 | @other x y h1 h2 g i j A G r=>intro st f;obtain⟨a,b,c,d⟩:=pR h1;have z:=f.jQ;obtain⟨P1,qR,P2,k,m,n,o,t⟩:=r st ⟨by show(if _ then 2 else _)=0;rw[ax (by omega)];exact z,f.da,f.pb,f.pl,f.tb,f.tr,f.says⟩;refine⟨P1,qR,P2,.more ((yT s _).2 ⟨a,b,c,.inl (Gm h1 A)⟩) g ⟨fun e=>absurd e i,fun e=>absurd e j⟩ d ?_,m,n,o,t⟩;unfold YN;rw[ax i,ax (show¬fG s (x.pos+4) 4=DI from j)];exact k
def ps0:PS:=⟨33,0,ByteArray.empty,ByteArray.empty,false,false,ByteArray.empty⟩
theorem lk0(K:Nat):Lk K ps0 ⟨[],false,[]⟩:=
 ⟨rfl,rfl,by decide,(fun e=>by cases e),rfl,fun _=>rfl,⟨fun _=>⟨rfl,fun j a=>absurd a (by simp)⟩,fun _=>rfl,fun _ e=>by cases e⟩⟩
end Pr
namespace Pr
open Rf
open gI (iD)
theorem TA(l:List UInt8):(FN l).length=l.length:=by simp[FN]
end Pr
namespace gI
open Go.RowKit Rf
open Pr (VK mM dm NI cell_of bF aC ak xU jX BB FN uo bJ)
structure D3(w w3:af)(W H D K I:Nat)(pl tr:ByteArray)(pb tb:Bool)(da:ByteArray):Prop where
 p:w3.heap[w.heap.size]?=some (aea W H D K I pl tr pb tb da)
 r:w3.heap[w.heap.size+1]?=some (.cells #[.int .i64 0,.int .i64 0,.slice none 0 0] 35 (0,0))
 h:w3.heap[w.heap.size+2]?=some (.cells #[.int .i64 (W:Int),.int .i64 (H:Int),.int .i64 (D:Int),.int .i64 (K:Int),.int .i64 (I:Int)] 99999 (0,0))
 bl:aA w.heap.size w w3
def lV(W H:Nat)(q:Nat×Nat×Nat×Nat):jX:=⟨q.1,q.2.1,q.2.2.1,q.2.2.2,manyN q.1 q.2.1 W,manyN q.2.2.1 q.2.2.2 H⟩
end gI
namespace Pr
open Go.RowKit Rf Cr
open gI (cut fK h_ bz gu bQ gQ fO rC lets Bv dw inW Dt dL Oh zB)
theorem afn{s:ByteArray}{p:Nat}(h2:JO (aF s (p+4))=true):97<=aF s (p+4):=by unfold JO at h2;simp at h2;omega
theorem afp{s:ByteArray}{p:Nat}(hp:p+8<=s.size)(h2:JO (aF s (p+4))=true):fG s (p+4) 4≠nM/\fG s (p+4) 4≠fD/\fG s (p+4) 4≠rD:=by
 have hb:=afn h2;refine⟨fun e=> ?_,fun e=> ?_,fun e=> ?_⟩
 ·have:=Zq hp e;have a:aF nM 0=73:=by decide
  omega
 ·have:=Zq hp e;have a:aF fD 0=73:=by decide
  omega
 ·have:=Zq hp e;have a:aF rD 0=80:=by decide
  omega
theorem afq{s:ByteArray}{p:Nat}(h1:pG s p)(h2:lets s p)(a:jw s (p+8) (bz s p) (cut s (p+4) 4)):rC s p:=(Zn s p).2 ⟨⟨h1,h2⟩,a⟩
theorem af2{s:ByteArray}{K D:Nat}{P:Pt}(h:Rest s P):∀x:PS,x.jQ=2->P=ac5 s x.pos->lC j_ s x.pos->∃y,Ia s K D x y:=by
 induction h with
 | @last p l h1 h2=>
   intro x m e f;unfold ac5 at e;injection e with g i e3 j
   obtain⟨a,b,c,d⟩:=(Og s _).1 f;subst g j;rw[e3]at h1;exact⟨x,.done (afq b c h1) i.symm (by omega) e3.symm h2⟩
 | @more p left name l h1 h2 n v o=>
   intro x m e f;unfold ac5 at e;injection e with g i e3 j
   obtain⟨a,b,c,d⟩:=(Og s _).1 f;subst g i e3 j;have k:=afq b c h2;rcases d with⟨d1,d2⟩|d
   ·obtain⟨q,r,t⟩:=afp a d1;obtain⟨y,u⟩:=o ⟨VM s x.pos,if x.jQ=1 then 2 else x.jQ,x.pl,x.tr,x.pb,x.tb,x.da⟩ (by show(if _ then 2 else _)=2;rw[ax (by omega)];exact m) rfl n;exact⟨y,.other k q r t d2 (afn d1) u⟩
   ·exact absurd d h1
theorem af4{s:ByteArray}{K D:Nat}{p left:Nat}{l:List UInt8}{P:Pt}(h:Ends s p left l P):Rest s P->∀x:PS,x.jQ=1->x.pos=p+left+4->(K=3->x.pb=true)->∃y,Ia s K D x y:=by
 induction h with
 | @stop p left l h1 h2 g=>
   intro i x f hp k;obtain⟨a,b,c,d⟩:=(Ai s _).1 h2;generalize t:(⟨p+left+4+8,fG s (p+left+4+4) 4,bz s (p+left+4),cut s (p+left+4+4) 4⟩:Pt)=P at i;cases i with
   |last j m=>
    injection t with n o e3 q
    subst n q;rw[<-e3]at j;rw[<-hp]at*;exact⟨x,.done (afq b c j) o (by omega) e3 m⟩
   |more j m u v=>
    injection t with n o e3 q
    subst n o e3 q;have e:=afq b c m;rcases d with(⟨d1,d2⟩|d)|d
    ·obtain⟨w,z,A⟩:=afp a d1;rw[<-hp]at*;obtain⟨y,r⟩:=af2 (K:=K) (D:=D) v ⟨VM s x.pos,if x.jQ=1 then 2 else x.jQ,x.pl,x.tr,x.pb,x.tb,x.da⟩ (by show(if _ then 2 else _)=2;rw[aG f]) rfl u;exact⟨y,.other e w z A d2 (afn d1) r⟩
    ·exact absurd d j
    ·exact absurd d g
 | @more p left l P h1 h2 g B C=>
   intro i x f hp k;obtain⟨a,b,c,d⟩:=(Ai s _).1 h2;obtain⟨y,r⟩:=C i ⟨VM s x.pos,1,x.pl,x.tr,x.pb,x.tb,x.da++fG s (x.pos+8) (bz s x.pos)⟩ rfl (by show VM s x.pos=_;unfold VM;rw[hp]) k;have e:=afq b c B.first.1
   rw[<-hp]at e g;exact⟨y,.VF e g (by omega) k r⟩
theorem afN{s:ByteArray}{K D:Nat}(hK:K=0\/K=2\/K=3\/K=4\/K=6)(r:K=3->D<=8){p:Nat}{st:Cs}{P1:Pt}{qR:Cs}(h:oJ s D K p st P1 qR):∀P2,Ends s P1.p P1.left P1.l P2->Rest s P2->∀x:PS,x.pos=p->Lk K x st->∃y,Ia s K D x y:=by
 induction h with
 | @here p st h1 h2 o=>
   intro P2 n q x hp g;obtain⟨a,b,c,d⟩:=(yT s _).1 h1;subst hp;have f:=afq b c n.first.1
   have u:K=3->x.pb=true:=fun e=>g.pb.2 (fun w=>o ⟨e,w⟩);obtain⟨y,k⟩:=af4 (K:=K) (D:=D) n q ⟨VM s x.pos,1,x.pl,x.tr,x.pb,x.tb,x.da++fG s (x.pos+8) (bz s x.pos)⟩ rfl rfl u;exact⟨y,.VF f h2 (by have:=g.jQ;omega) u k⟩
 | @more p st qR P h1 h2 o z H m=>
   intro P2 n q x hp g;obtain⟨a,b,c,d⟩:=(yT s _).1 h1;subst hp;have f:=afq b c z;unfold YN at m;by_cases i:fG s (x.pos+4) 4=rD
   ·rw[aG i]at m;have v:=(g.VN f r).2 (o.1 i);obtain⟨y,k⟩:=m P2 n q _ rfl (g.adN f v);exact⟨y,.VN f i v k⟩
   ·by_cases j:fG s (x.pos+4) 4=DI
    ·rw[ax i,aG j]at m;obtain⟨A,B,C⟩:=(g.VO f hK).2 (o.2 j);obtain⟨y,k⟩:=m P2 n q _ rfl (g.ac7 f hK (o.2 j));exact⟨y,.VO f j A B C k⟩
    ·rw[ax i,ax j]at m;have t:=g.jQ;rcases d with d|d|d
     ·obtain⟨E,F,G⟩:=afp a d;obtain⟨y,k⟩:=m P2 n q ⟨VM s x.pos,if x.jQ=1 then 2 else x.jQ,x.pl,x.tr,x.pb,x.tb,x.da⟩ rfl ⟨by show(if _ then 2 else _)=0;rw[ax (by omega)];exact t,g.da,g.pb,g.pl,g.tb,g.tr,g.says⟩;exact⟨y,.other f E F G j (afn d) k⟩
     ·exact absurd d i
     ·exact absurd d h2
structure Inv(K:Nat)(x:PS):Prop where
 pl:x.pl.size%3=0
 tr:(K=0\/K=2)->x.tb=true->x.tr.size=2*zB K
theorem agk{s:ByteArray}{K D:Nat}{x y:PS}(h:Ia s K D x y):Inv K x->Inv K y:=by
 induction h with
 |done h1 h2 c d e=>exact id
 |VF h1 h2 c d e b=>exact fun h=>b ⟨h.pl,h.tr⟩
 | @VN x y h1 h2 c d b=>refine fun h=>b ⟨?_,h.tr⟩;show(fG s (x.pos+8) (bz s x.pos)).size%3=0;have:=h1.2.2.1;rw[jW s (x.pos+8) _ (by omega)];exact c.2.2.2.2.2.1
 | @VO x y h1 h2 c d e f b=>
   refine fun h=>b ⟨h.pl,fun g _=> ?_⟩;rcases e with⟨a,_⟩|⟨_,a⟩
   ·omega
   ·exact a.1
 |other h1 h2 c d e f i b=>exact fun h=>b ⟨h.pl,h.tr⟩
end Pr
namespace Pr
open Go.RowKit Rf Cr
open gI (cut fK bz gu gQ rC b_ lV zB)
def hIn(s:ByteArray):Nat:=if hI s=true then 1 else 0
theorem Aj(W H:Nat)(I:Bool)(hW:1<=W)(hH:1<=H):dU W H I=((b_ (if I=true then 1 else 0)).map (lV W H)).filter fun t=>decide (0<t.W)&&decide (0<t.H):=by
 cases I
 ·have a:((b_ (if false=true then 1 else 0)).map (lV W H)).filter (fun t=>decide (0<t.W)&&decide (0<t.H))=List.filter (fun t=>decide (0<t.W)&&decide (0<t.H)) [(⟨0,1,0,1,cu W 0 1,cu H 0 1⟩:jX)]:=rfl;rw[a,yO,yO,qQ,aG (by simp;omega)];rfl
 ·rfl
theorem Zt(K:Nat)(hK:K=0\/K=2\/K=3\/K=4\/K=6):1<=aT K:=by rcases hK with rfl|rfl|rfl|rfl|rfl<;>decide
noncomputable def Rl(s:ByteArray)(st:Cs)(l:List Nat):Option (List Nat):=BB (Oc (hW s) (hH s) (hD s) (hK s) (hI s) st) ((b_ (hIn s)).map (lV (hW s) (hH s))) l (List.replicate (4*hW s*hH s) 0)
def hSz(s:ByteArray):Nat:=kH (hD s*aT (hK s)) (dU (hW s) (hH s) (hI s))
theorem Oi{s:ByteArray}(h0:H0 s)(st:Cs)(t:jX)(h:(dU (hW s) (hH s) (hI s))[0]?=some t)(l:List Nat)(j:l.length=hSz s):
 (mJ (Oc (hW s) (hH s) (hD s) (hK s) (hI s) st) l (rs0 (hD s*aT (hK s)) (4*hW s*hH s) t)).map (fun r=>r.dQ)=Rl s st l:=by
 obtain⟨k,hd,m,c,d⟩:=Ag h0;have a:1<=hD s:=by unfold eG at hd;omega
 have hb:1<=hD s*aT (hK s):=bD a (Zt _ k);refine VP _ (abl _ _ _ _ _ _ a) hb _ (Aj _ _ _ c d) _ l rfl rfl (fun f b=> ?_) j;have e:f=t:=by have:(dU (hW s) (hH s) (hI s))[0]?=some f:=b;rw[h]at this;exact(eu this).symm
 subst e;have g:∀n i,(List.replicate n 0).getD i 0=0:=fun n i=>by rw[ag,zA];split<;>rfl
 exact⟨b,by simp[rs0],by simp[rs0],fun i _=>g _ i,fun i _=>g _ i,fun i _=>by rw[show(rs0 (hD s*aT (hK s)) (4*hW s*hH s) f).qf=List.replicate _ 0 from rfl,g];rfl,rfl⟩
theorem afO{s:ByteArray}(h0:H0 s)(h:¬ ∃y,Ia s (hK s) (hD s) ps0 y):¬Good s:=by rintro⟨P1,st,t,P2,hw⟩;obtain⟨b,hd,a,-,-⟩:=Ag h0;exact h (afN b a hw.ahead P2 hw.ends hw.rest ps0 rfl (lk0 _))
theorem abM{s:ByteArray}{n:Nat}{A B:ByteArray->Prop}(h:WI s n A)(a:B s):WI s n B:=⟨h.1,h.2.1,h.2.2.1,h.2.2.2.1,h.2.2.2.2.1,a⟩
structure adO(s:ByteArray)(y:PS)(P1:Pt)(st:Cs)(t:jX)(P2:Pt):Prop where
 ahead:oJ s (hD s) (hK s) 33 ⟨[],false,[]⟩ P1 st
 ends:Ends s P1.p P1.left P1.l P2
 rest:Rest s P2
 says:Ri (hK s) st y.pl y.tr y.tb
 da:y.da=qp s P1.p P1.left P1.l
 first:(dU (hW s) (hH s) (hI s))[0]?=some t
theorem abN{s:ByteArray}(h0:H0 s){y:PS}(h:Ia s (hK s) (hD s) ps0 y):∃P1 st t P2,adO s y P1 st t P2:=by obtain⟨d,hd,a,b,c⟩:=Ag h0;obtain⟨P1,st,P2,h1,h2,e,f,g⟩:=Zr d a h ⟨[],false,[]⟩ (lk0 _);obtain⟨t,i⟩:=Bi (hW s) (hH s) (hI s) b c;exact⟨P1,st,t,P2,h1,h2,e,f,g,i⟩
theorem adO.VE{s:ByteArray}{y:PS}{P1:Pt}{st:Cs}{t:jX}{P2:Pt}(h:adO s y P1 st t P2){a:Pt}{qR:Cs}{b:jX}{c:Pt}(g:Way s a qR b c):a=P1/\qR=st/\b=t:=by
 obtain⟨d,e⟩:=h.ahead.VE g.ahead;refine⟨d,e,?_⟩;have:=h.first
 rw[g.first]at this;exact eu this
theorem afb{s:ByteArray}{y:PS}{P1:Pt}{st:Cs}{t:jX}{P2:Pt}(h:adO s y P1 st t P2)(a:¬WI y.da (hSz s) (fun _=>True)):¬Good s:=by rintro⟨b,qR,c,d,hw⟩;obtain⟨rfl,rfl,rfl⟩:=h.VE hw;refine a ?_;rw[h.da];exact abM hw.rows.1 trivial
theorem abO{s:ByteArray}(h0:H0 s){y:PS}{P1:Pt}{st:Cs}{t:jX}{P2:Pt}(h:adO s y P1 st t P2)(a:WI y.da (hSz s) (fun _=>True)){dQ:List Nat}(c:Rl s st (FN (wU y.da (hSz s)).out)=some dQ):
 ∃f,Way s P1 st t P2/\Oe s P1 st t=some f/\f.dQ=dQ:=by
 have:=Oi h0 st t h.first (FN (wU y.da (hSz s)).out) (by rw[TA];exact a.2.2.1)
 rw[c]at this;obtain⟨f,b,he⟩:=Option.map_eq_some_iff.1 this;rw[h.da]at b a;exact⟨f,⟨h0,h.ahead,h.first,⟨abM a ⟨P2,h.ends⟩,f,b⟩,h.ends,h.rest⟩,b,he⟩
end Pr
namespace Pr
open gI (iD qx b_ manyN lV)
def Rn(f d:Nat)(row bM:List Nat)(k:Nat):Nat:=
 (row.getD k 0+256-iD f (if d<=k then row.getD (k-d) 0 else 0) (bM.getD k 0) (if d<=k then bM.getD (k-d) 0 else 0))%256
def Ak(f d:Nat)(row bM:List Nat)(n:Nat):List Nat:=(List.range n).map (Rn f d row bM)
theorem tV(f d:Nat)(row bM:List Nat)(n:Nat):(Ak f d row bM n).length=n:=by simp[Ak]
theorem abP(f d:Nat)(row bM:List Nat)(n k:Nat)(h:k<n):(Ak f d row bM n).getD k 0=Rn f d row bM k:=by simp[Ak,List.getD_eq_getElem?_getD,h]
theorem VQ(f d:Nat)(row bM:List Nat)(n:Nat):Ak f d row bM (n+1)=Ak f d row bM n++[Rn f d row bM n]:=by simp[Ak,List.range_succ]
theorem oq{l:List Nat}(h:∀x∈l,x<=255)(i:Nat):l.getD i 0<=255:=by
 rcases bW i l.length with hi|hi
 ·rw[ag,aB hi];exact h _ (wo hi)
 ·rw[ag,dD hi];exact aX _
theorem ac8(f d:Nat)(row bM s:List Nat)(a:∀x∈row,x<=255)(b:∀x∈bM,x<=255)(hd:1<=d)(n:Nat)(l:n<=row.length)(c:∀k,k<n->s.getD k 0=Rn f d row bM k):oQ f d s bM n=row.take n:=by
 induction n with
 |zero=>simp[oQ]
 |succ n e=>
  rw[oQ,e (by omega) (fun k m=>c k (by omega)),dN (by omega)];congr 1
  have h:(if d<=n then(row.take n).getD (n-d) 0 else 0)=if d<=n then row.getD (n-d) 0 else 0:=by
   split
   ·rw[ag,dh (by omega),<-ag]
   ·rfl
  have i:row[n]'(by omega)=row.getD n 0:=by rw[ag,aB (by omega)];rfl
  have o:iD f (if d<=n then row.getD (n-d) 0 else 0) (bM.getD n 0) (if d<=n then bM.getD (n-d) 0 else 0)<=255:=by
   refine qx _ _ _ _ ?_ (oq b _) ?_
   ·split
    ·exact oq a _
    ·omega
   ·split
    ·exact oq b _
    ·omega
  have j:=oq a n;rw[i,Ym,c n (by omega),h,Rn];generalize iD f _ _ _=g at*;generalize row.getD n 0=r at*;congr 1
  omega
def VR(q:Nat->qZ)(dQ:List Nat)(n:Nat):Prop:=dQ.getD (4*n) 0=(q n).1/\dQ.getD (4*n+1) 0=(q n).2.1/\dQ.getD (4*n+2) 0=(q n).2.2.1/\dQ.getD (4*n+3) 0=(q n).2.2.2
theorem TB(dQ:List Nat)(o:Nat)(q:qZ)(h:o+4<=dQ.length)(i:Nat):(CQ dQ o q).getD i 0=if i=o then q.1 else if i=o+1 then q.2.1 else if i=o+2 then q.2.2.1 else if i=o+3 then q.2.2.2 else dQ.getD i 0:=by
 unfold CQ;simp only[List.getD_eq_getElem?_getD,List.getElem?_set,List.length_set];by_cases a:o+3=i
 ·subst a;simp[show o+3<dQ.length by omega]
 by_cases h2:o+2=i
 ·subst h2;simp[show o+2<dQ.length by omega]
 by_cases h1:o+1=i
 ·subst h1;simp[show o+1<dQ.length by omega]
 by_cases h0:o=i
 ·subst h0;simp[show o<dQ.length by omega]
 ·simp[h0,h1,h2,a,Ne.symm h0,Ne.symm h1,Ne.symm h2,Ne.symm a]
theorem Oj(q:Nat->qZ)(dQ:List Nat)(m:Nat)(h:4*m+4<=dQ.length):VR q (CQ dQ (4*m) (q m)) m:=by
 refine⟨?_,?_,?_,?_⟩<;>rw[TB _ _ _ h]
 ·rw[aG rfl]
 ·rw[ax (by omega),aG rfl]
 ·rw[ax (by omega),ax (by omega),aG rfl]
 ·rw[ax (by omega),ax (by omega),ax (by omega),aG rfl]
theorem VS(q:Nat->qZ)(dQ:List Nat)(m n:Nat)(h:4*m+4<=dQ.length)(a:VR q dQ n):VR q (CQ dQ (4*m) (q m)) n:=by
 by_cases e:n=m
 ·subst e;exact Oj q dQ n h
 ·refine⟨?_,?_,?_,?_⟩<;>rw[TB _ _ _ h,ax (by omega),ax (by omega),ax (by omega),ax (by omega)]
  ·exact a.1
  ·exact a.2.1
  ·exact a.2.2.1
  ·exact a.2.2.2
theorem VT(q:Nat->qZ)(M:Nat)(px:Nat->Option qZ)(pos pm:Nat->Nat)(k i:Nat)(dQ:List Nat)(d:dQ.length=4*M)(hp:∀j,i<=j->j<i+k->px j=some (q (pm j))/\pos j=4*pm j/\pm j<M):
 ∃c,gG px pos k i dQ=some c/\c.length=4*M/\(∀n,VR q dQ n->VR q c n)/\∀j,i<=j->j<i+k->VR q c (pm j):=by
 induction k generalizing i dQ with
 |zero=>exact⟨dQ,rfl,d,fun n h=>h,fun j h1 h2=>by omega⟩
 |succ k f=>
  obtain⟨h1,h2,o⟩:=hp i (ah _) (by omega);obtain⟨c,e,l,ke,go⟩:=f (i+1) (CQ dQ (pos i) (q (pm i))) (by rw[Nh];exact d) (fun j a b=>hp j (by omega) (by omega));refine⟨c,by rw[gG,h1];exact e,l,fun n g=>ke n ?_,fun j a b=> ?_⟩
  ·rw[h2];exact VS q dQ _ n (by omega) g
  ·by_cases m:j=i
   ·subst m;exact ke _ (by rw[h2];exact Oj q dQ _ (by omega))
   ·exact go j (by omega) (by omega)
def uX(bits W:Nat)(R:Nat->List Nat)(F:Nat->Nat):Nat->Nat->List Nat
 |0,_=>[]
 |k+1,y=>F y::(Ak (F y) (aJ bits) (R y) (if y=0 then []else R (y-1)) (bJ bits W)++uX bits W R F k (y+1))
theorem Ol(bits W:Nat)(R:Nat->List Nat)(F:Nat->Nat)(k y:Nat):(uX bits W R F k y).length=k*(1+bJ bits W):=by
 induction k generalizing y with
 |zero=>simp[uX]
 |succ k a=>rw[uX,dF,aK,tV,a,eF];omega
theorem VU(bits:Nat):1<=aJ bits:=by unfold aJ;omega
theorem Zu(q:Nat->qZ)(M:Nat)(P:xU)(t:jX)(R:Nat->List Nat)(F:Nat->Nat)(hF:∀y,F y<=4)(b:∀y,(R y).length=bJ P.bits t.W/\∀x∈R y,x<=255)
 (hp:∀y,y<t.H->∀i,i<t.W->P.px (R y) i=some (q ((t.y+y*t.sy)*P.W+t.x+i*t.sx))/\(t.y+y*t.sy)*P.W+t.x+i*t.sx<M)
 (k y:Nat) (I:y+k=t.H) (dQ:List Nat) (d:dQ.length=4*M):
 ∃a,vO P t k y (if y=0 then []else R (y-1)) (uX P.bits t.W R F k y) dQ=some a/\a.length=4*M/\(∀n,VR q dQ n->VR q a n)/\∀z,y<=z->z<t.H->∀i,i<t.W->VR q a ((t.y+z*t.sy)*P.W+t.x+i*t.sx):=by
 induction k generalizing y dQ with
 |zero=>exact⟨dQ,rfl,d,fun n h=>h,fun z h1 h2=>by omega⟩
 |succ k l=>
  have m:(uX P.bits t.W R F (k+1) y).getD 0 0=F y:=rfl;have o:((uX P.bits t.W R F (k+1) y).drop 1).take (bJ P.bits t.W)=Ak (F y) (aJ P.bits) (R y) (if y=0 then []else R (y-1)) (bJ P.bits t.W):=by rw[uX,List.drop_one,List.tail_cons,List.take_append_of_le_length (by rw[tV];exact ah _),dn (by rw[tV];exact ah _)]
  have p:(uX P.bits t.W R F (k+1) y).drop (bJ P.bits t.W+1)=uX P.bits t.W R F k (y+1):=by rw[uX,List.drop_succ_cons,List.drop_append_of_le_length (by rw[tV];exact ah _),fU (by rw[tV];exact ah _),yD]
  have c:∀x∈(if y=0 then []else R (y-1)),x<=255:=by
   split
   ·intro x r;cases r
   ·exact(b _).2
  have e3:oQ (F y) (aJ P.bits) (Ak (F y) (aJ P.bits) (R y) (if y=0 then []else R (y-1)) (bJ P.bits t.W)) (if y=0 then []else R (y-1)) (bJ P.bits t.W)=R y:=by rw[ac8 (F y) (aJ P.bits) (R y) _ _ (b y).2 c (VU _) _ (by rw[(b y).1];exact ah _) (fun j s=>abP _ _ _ _ _ _ s),dn (by rw[(b y).1];exact ah _)]
  obtain⟨u,v,w,A,B⟩:=VT q M (P.px (R y)) (rq P.W t y) (fun i=>(t.y+y*t.sy)*P.W+t.x+i*t.sx) t.W 0 dQ d (fun j h1 h2=>⟨(hp y (by omega) j (by omega)).1,rfl,(hp y (by omega) j (by omega)).2⟩);obtain⟨C,f,D,g,E⟩:=l (y+1) (by omega) u w;refine⟨C,?_,D,fun n G=>g n (A n G),fun z h1 h2 i hi=> ?_⟩
  ·rw[vO,m,o,p,e3,ax (by have:=hF y;omega),v];rw[ax (by omega)]at f;exact f
  ·by_cases e:z=y
   ·subst e;exact g _ (B i (by omega) (by omega))
   ·exact E z (by omega) h2 i hi
def uY(bits:Nat)(R:jX->Nat->List Nat)(F:Nat->Nat):Nat->List jX->List Nat
 |_,[]=>[]
 |c,t::a=>if t.W=0 then uY bits R F c a else uX bits t.W (R t) (fun y=>F (c+y)) t.H 0++uY bits R F (c+t.H) a
theorem abQ(q:Nat->qZ)(M:Nat)(P:xU)(R:jX->Nat->List Nat)(F:Nat->Nat)(hF:∀y,F y<=4)(b:List jX)
 (f:∀t∈b,∀y,(R t y).length=bJ P.bits t.W/\∀x∈R t y,x<=255)
 (hp:∀t∈b,∀y,y<t.H->∀i,i<t.W->P.px (R t y) i=some (q ((t.y+y*t.sy)*P.W+t.x+i*t.sx))/\(t.y+y*t.sy)*P.W+t.x+i*t.sx<M)
 (c:Nat) (dQ:List Nat) (g:dQ.length=4*M):
 ∃a,BB P b (uY P.bits R F c b) dQ=some a/\a.length=4*M/\(∀n,VR q dQ n->VR q a n)/\∀t∈b,∀y,y<t.H->∀i,i<t.W->VR q a ((t.y+y*t.sy)*P.W+t.x+i*t.sx):=by
 induction b generalizing dQ c with
 |nil=>exact⟨dQ,rfl,g,fun n h=>h,fun t h=>by cases h⟩
 |cons t b m=>
  by_cases h0:t.W=0
  ·obtain⟨p,d,j,k,l⟩:=m (fun u hu=>f u (lS _ hu)) (fun u hu=>hp u (lS _ hu)) c dQ g;refine⟨p,by rw[BB,uY,aG h0,aG h0];exact d,j,k,fun u hu y e i hi=> ?_⟩;rcases List.mem_cons.1 hu with rfl|hu
   ·omega
   ·exact l u hu y e i hi
  ·obtain⟨r,d,j,k,l⟩:=Zu q M P t (R t) (fun y=>F (c+y)) (fun y=>hF (c+y)) (f t (zl ..)) (hp t (zl ..)) t.H 0 (by omega) dQ g;obtain⟨p,s,v,o,w⟩:=m (fun u hu=>f u (lS _ hu)) (fun u hu=>hp u (lS _ hu)) (c+t.H) r j;refine⟨p,?_,v,fun n z=>o n (k n z),fun u hu y e i hi=> ?_⟩
   ·rw[BB,uY,ax h0,ax h0];have hlen:=Ol P.bits t.W (R t) (fun y=>F (c+y)) t.H 0;rw[List.take_append_of_le_length (by omega),dn (by omega),List.drop_append_of_le_length (by omega),fU (by omega),yD];rw[aG rfl]at d;rw[d];exact s
   ·rcases List.mem_cons.1 hu with rfl|hu
    ·exact o _ (l y (aX _) e i hi)
    ·exact w u hu y e i hi
theorem Zv(bits:Nat)(R:jX->Nat->List Nat)(F:Nat->Nat)(a:List jX):∀c,(uY bits R F c a).length=kH bits (a.filter fun t=>decide (0<t.W)&&decide (0<t.H)):=by
 induction a with
 |nil=>intro c;rfl
 |cons t a b=>
  intro c;rw[uY,qQ];by_cases h0:t.W=0
  ·rw[aG h0,b,ax (by simp[h0])]
  ·rw[ax h0,aK,Ol,b];by_cases h1:t.H=0
   ·rw[ax (by simp[h1]),h1];omega
   ·rw[aG (by simp;omega),kH]
theorem abR(bits W:Nat)(R:Nat->List Nat)(F:Nat->Nat)(hF:∀y,F y<=4)(k y:Nat):∀x∈uX bits W R F k y,x<=255:=by
 induction k generalizing y with
 |zero=>intro x a;cases a
 |succ k b=>
  intro x a;rw[uX]at a;rcases List.mem_cons.1 a with rfl|a
  ·have:=hF y;omega
  ·rcases List.mem_append.1 a with a|a
   ·obtain⟨j,_,rfl⟩:=List.mem_map.1 a;unfold Rn;omega
   ·exact b _ x a
theorem TC(bits:Nat)(R:jX->Nat->List Nat)(F:Nat->Nat)(hF:∀y,F y<=4)(b:List jX):∀c,∀x∈uY bits R F c b,x<=255:=by
 induction b with
 |nil=>intro c x a;cases a
 |cons t b d=>
  intro c x a;rw[uY]at a;split at a
  ·exact d c x a
  ·rcases List.mem_append.1 a with a|a
   ·exact abR _ _ _ _ (fun y=>hF (c+y)) _ _ x a
   ·exact d _ x a
def pU(q:Nat->qZ):Nat->List Nat
 |0=>[]
 |n+1=>pU q n++[(q n).1,(q n).2.1,(q n).2.2.1,(q n).2.2.2]
theorem Zw(q:Nat->qZ)(n:Nat):(pU q n).length=4*n:=by
 induction n with
 |zero=>rfl
 |succ n a=>rw[pU,aK,a];simp;omega
theorem abS(q:Nat->qZ)(n:Nat)(dQ:List Nat)(g:dQ.length=4*n)(h:∀m,m<n->VR q dQ m):dQ=pU q n:=by
 induction n generalizing dQ with
 |zero=>exact gm (by omega)
 |succ n f=>
  have h1:dQ.take (4*n)=pU q n:=by refine f _ (by simp;omega) (fun m hm=> ?_);obtain⟨a,b,c,d⟩:=h m (by omega);refine⟨?_,?_,?_,?_⟩<;>rw[ag,dh (by omega),<-ag]<;>assumption
  have h2:dQ.drop (4*n)=[(q n).1,(q n).2.1,(q n).2.2.1,(q n).2.2.2]:=by
   obtain⟨a,b,c,d⟩:=h n (by omega);have e:∀j,j<4->(dQ.drop (4*n))[j]?=some (dQ.getD (4*n+j) 0):=by intro j k;rw[gJ,aB (by omega),ag,aB (by omega)];rfl
   apply List.ext_getElem?;intro i;rcases(by omega:i=0\/i=1\/i=2\/i=3\/4<=i)with rfl|rfl|rfl|rfl|hi
   ·rw[e 0 (by omega)];rw[cO,a];rfl
   ·rw[e 1 (by omega),b];rfl
   ·rw[e 2 (by omega),c];rfl
   ·rw[e 3 (by omega),d];rfl
   ·rw[dD (by simp;omega),dD (by simpa using hi)]
  rw[pU,<-h1,<-h2,nS]
theorem uK{a d n i:Nat}(hd:1<=d):i<manyN a d n↔a+i*d<n:=by
 unfold manyN;split
 ·constructor
  ·intro h;omega
  ·intro h;have:=aX (i*d);omega
 ·rename_i h;rw[Nat.lt_succ_iff,Nat.le_div_iff_mul_le (by omega)];omega
theorem Gp{W H x y:Nat}(b:x<W)(a:y<H):y*W+x<W*H:=by have h1:(y+1)*W<=H*W:=dM _ a;rw[eF,m_]at h1;rw[eP W H];omega
theorem covered(W H I x y:Nat)(hI:I<=1)(g:x<W)(j:y<H):∃t∈(b_ I).map (lV W H),∃k,k<t.H/\∃i,i<t.W/\t.y+k*t.sy=y/\t.x+i*t.sx=x:=by
 have put:∀a b c d,(a,b,c,d)∈b_ I->1<=b->1<=d->a<=x->c<=y->(x-a)%b=0->(y-c)%d=0->∃t∈(b_ I).map (lV W H),∃k,k<t.H/\∃i,i<t.W/\t.y+k*t.sy=y/\t.x+i*t.sx=x:=by
  intro a b c d hm hb hd e f h1 h2;have l:(x-a)/b*b=x-a:=Nat.div_mul_cancel (Nat.dvd_of_mod_eq_zero h1);have m:(y-c)/d*d=y-c:=Nat.div_mul_cancel (Nat.dvd_of_mod_eq_zero h2);refine⟨lV W H (a,b,c,d),List.mem_map_of_mem hm,(y-c)/d,?_,(x-a)/b,?_,?_,?_⟩
  ·show _<manyN c d H;rw[uK hd];omega
  ·show _<manyN a b W;rw[uK hb];omega
  ·show c+(y-c)/d*d=y;omega
  ·show a+(x-a)/b*b=x;omega
 rcases(by omega:I=0\/I=1)with rfl|rfl
 ·exact put 0 1 0 1 (by simp[b_]) (by omega) (by omega) (by omega) (by omega) (by omega) (by omega)
 ·rcases(by omega:(x%8=0/\y%8=0)\/(x%8=4/\y%8=0)\/(x%4=0/\y%8=4)\/(x%4=2/\y%4=0)\/(x%2=0/\y%4=2)\/(x%2=1/\y%2=0)\/y%2=1)with h|h|h|h|h|h|h
  ·exact put 0 8 0 8 (by simp[b_]) (by omega) (by omega) (by omega) (by omega) (by omega) (by omega)
  ·exact put 4 8 0 8 (by simp[b_]) (by omega) (by omega) (by omega) (by omega) (by omega) (by omega)
  ·exact put 0 4 4 8 (by simp[b_]) (by omega) (by omega) (by omega) (by omega) (by omega) (by omega)
  ·exact put 2 4 0 4 (by simp[b_]) (by omega) (by omega) (by omega) (by omega) (by omega) (by omega)
  ·exact put 0 2 2 4 (by simp[b_]) (by omega) (by omega) (by omega) (by omega) (by omega) (by omega)
  ·exact put 1 2 0 2 (by simp[b_]) (by omega) (by omega) (by omega) (by omega) (by omega) (by omega)
  ·exact put 0 1 1 2 (by simp[b_]) (by omega) (by omega) (by omega) (by omega) (by omega) (by omega)
theorem Om(I:Nat)(q:Nat×Nat×Nat×Nat)(h:q∈b_ I):1<=q.2.1/\1<=q.2.2.2:=by
 unfold b_ at h;split at h
 ·simp at h;subst h;exact⟨ah _,ah _⟩
 ·simp at h;rcases h with rfl|rfl|rfl|rfl|rfl|rfl|rfl<;>exact⟨by decide,by decide⟩
theorem VV(q:Nat->qZ)(W H I:Nat)(hI:I<=1)(P:xU)(a:P.W=W)(R:jX->Nat->List Nat)(F:Nat->Nat)(hF:∀y,F y<=4)
 (d:∀t∈(b_ I).map (lV W H),∀y,(R t y).length=bJ P.bits t.W/\∀x∈R t y,x<=255)
 (hp:∀t∈(b_ I).map (lV W H),∀y,y<t.H->∀i,i<t.W->P.px (R t y) i=some (q ((t.y+y*t.sy)*W+(t.x+i*t.sx)))):
 BB P ((b_ I).map (lV W H)) (uY P.bits R F 0 ((b_ I).map (lV W H))) (List.replicate (4*W*H) 0)=some (pU q (W*H)):=by
 obtain⟨p,e,f,u,g⟩:=abQ q (W*H) P R F hF ((b_ I).map (lV W H)) d (fun t b y c i hi=>by rw[a,dK];refine⟨hp t b y c i hi,?_⟩;obtain⟨s,j,rfl⟩:=List.mem_map.1 b;obtain⟨h1,h2⟩:=Om I s j;exact Gp ((uK h1).1 hi) ((uK h2).1 c)) 0 (List.replicate (4*W*H) 0) (by rw[uj,ni])
 rw[e];refine jo some (abS q (W*H) p f (fun m hm=> ?_));have hW:0<W:=by
  rcases Nat.eq_zero_or_pos W with h|h
  ·subst h;simp at hm
  ·exact h
 have l:=jR m hW;have c:m/W<H:=Nat.div_lt_of_lt_mul hm;obtain⟨t,b,k,n,i,hi,o,r⟩:=covered W H I (m%W) (m/W) hI l c;have:=g t b k n i hi;rw[a,dK,o,r,eP,Nat.div_add_mod]at this;exact this
end Pr
end Go.Proofs.YtephkcdbnogdhabGreatDoor
